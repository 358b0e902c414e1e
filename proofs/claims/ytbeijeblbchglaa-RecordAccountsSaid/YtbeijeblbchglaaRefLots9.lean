/- Chapter 9, walks: the reference's lotsOf. -/
import Derived.Test.YtbeijeblbchglaaLotsOf9
namespace Go.Proofs.Ytbeijeblbchglaa
open Go.RowKit Go.WideShapes Go.Deep

theorem scan_yes {p : ByteArray} {f e i w : Int} {m : Mv} {r : List Mv} (h : eqS m.p p = true) (hk : m.k ≠ 0) : scan p f e i w (m :: r) = (if 0 < min e (w + m.n) - max f w then [⟨p, min e (w + m.n) - max f w, i, m.d, m.k⟩] else []) ++ scan p f e i (w + m.n) r := by
  rw [scan, if_pos ⟨h, hk⟩]
theorem scan_no {p : ByteArray} {f e i w : Int} {m : Mv} {r : List Mv} (h : ¬ (eqS m.p p = true ∧ m.k ≠ 0)) : scan p f e i w (m :: r) = scan p f e i w r := by
  rw [scan, if_neg h]
set_option maxRecDepth 100000 in
set_option maxHeartbeats 16000000 in
theorem refLotsOf_any (p : ByteArray) (A : Option Addr) (n c : Nat) (l : List Mv) (w : World) (h : Rws Mv.cs 4 w w.heap.size A n c l) (hst : stOk p l) (hok : l.all okM = true) (hn : n ≤ 300) :
    Calls Try.prog 63 #[.slice A n c, .string p] w fun e w' => Below w.heap.size w w' ∧ ∃ v, e = .returned v ∧ w'.ownsRow w.heap.size 54 5 v (lotsR p l).length ((lotsR p l).flatMap Lt.cs) := by
  have hcap := h.cap
  have hmax := h.max
  have HLEN := Lib.hid h.len
  have HOK := Lib.hid hok
  have HLR : Hid ((lotsR p l).length ≤ 300) := Lib.hid (by
    rw [← lots_same hst, lotsP, List.length_append]
    have := runM_len p l l.length (Nat.le_refl _)
    rw [List.take_length, HLEN.out] at this
    omega)
  have H : Hid (∀ w', Below w.heap.size w w' → Rws Mv.cs 4 w' w.heap.size A n c l) := fun w' hb => h.below hb (Nat.le_refl _) (Nat.le_refl _)
  clear h hst hok
  go_enter Try.func63, Try.ntmps63
  go_wp2
  go_loopw [5, 6, 7, 8, 9, 10, 11, 12, 13] (fun vo ca i _ _ _ _ _ _ wr => ∃ (k : Nat) (cc : Int) (Os : List Lt), k ≤ n ∧ i = .int .i64 k ∧ ca = .int .i64 cc ∧ Hid (Os ++ refL p l cc (l.drop k) = lotsR p l) ∧ Hid (0 ≤ cc ∧ cc ≤ 100000 * (k : Int)) ∧ Two wr w.heap.size Os [] vo (.slice none 0 0) ∧ Below w.heap.size w wr) (fun _ _ i _ _ _ _ _ _ _ => n - (intOf i).toNat)
  case atStart => exact ⟨0, 0, [], Nat.zero_le _, rfl, rfl, Lib.hid rfl, Lib.hid (by omega), Two.nil_ _ _, (by repeat (first | with_reducible exact Below.refl _ _ | with_reducible assumption | with_reducible refine Below.drew ?_ | with_reducible refine Below.drewN ?_ _ | with_reducible refine Below.alloc2 ?_ _ | with_reducible refine Below.alloc ?_ (by first | omega | (simp <;> omega)) _ | with_reducible refine Below.setCell ?_ (by first | omega | (simp <;> omega)) _ | with_reducible refine Below.step2 (by with_reducible assumption) ?_ | with_reducible refine Below.step (by with_reducible assumption) ?_ (by first | omega | (simp <;> omega))))⟩
  case round =>
    obtain ⟨k, cc, Os, hk, rfl, rfl, HQ, HC, ht, hb⟩ := hrel
    have HB := Lib.hid hb
    have HT := Lib.hid ht
    have ow := hb.size
    have hcc := HC.out
    by_cases hlt : k < n
    · obtain ⟨b, o, ⟨xd, xk, xp, xn⟩, rfl, hbb, hx, c0, c1, c2, c3⟩ := (H.out _ hb).mv hlt
      dsimp only at c0 c1 c2 c3
      have hokx := List.all_eq_true.1 HOK.out _ (List.mem_of_getElem? hx)
      unfold okM at hokx
      simp only [Bool.and_eq_true] at hokx
      have hk2 := inR_iff.1 hokx.1
      have hn2 := inR_iff.1 hokx.2
      (try dsimp only at hk2); (try dsimp only at hn2)
      have HX := Lib.hid hx
      have ob : b < wr.heap.size := by omega
      have z1 : (0 : Int) ≤ (k : Int) := by omega
      have z2 : (k : Int) < (n : Int) := by omega
      obtain ⟨v, hv⟩ : ∃ v, (xp.toList == p.toList) = v := ⟨_, rfl⟩
      have HV : Hid (eqS xp p = v) := Lib.hid hv
      have HQ1 := HQ.out
      rw [drop_step hx, refL] at HQ1
      dsimp only at HQ1
      clear hx hb hokx ht
      by_cases hyes : v = true ∧ xk = 0
      · obtain ⟨rfl, h0⟩ := hyes
        rw [if_pos ⟨HV.out, h0⟩] at HQ1
        have d0 : (xk != 0) = false := by simpa using h0
        have HH0 := Lib.hid h0
        have HQ2 := Lib.hid HQ1
        have hw1 : IntKind.i64.wrap (cc + xn) = cc + xn := IntWalk.i64_in _ (by omega)
        clear h0 HQ1 hk2
        go_wp2
        go_quiet (fail)
        go_wp2
        go_loopw [5, 10, 11, 12] (fun vo we jj _ wi => ∃ (wv : Int) (j : Nat) (Os2 : List Lt), j ≤ n ∧ we = .int .i64 wv ∧ jj = .int .i64 (j : Int) ∧ Hid (Os2 ++ (scan p cc (cc + xn) xd wv (l.drop j) ++ refL p l (cc + xn) (l.drop (k + 1))) = lotsR p l) ∧ Hid (0 ≤ wv ∧ wv ≤ 100000 * (j : Int)) ∧ Two wi w.heap.size Os2 [] vo (.slice none 0 0) ∧ Below w.heap.size w wi) (fun _ _ jj _ _ => n - (intOf jj).toNat)
        case atStart =>
          have hb0 := HB.out
          exact ⟨0, 0, Os, Nat.zero_le _, rfl, rfl, HQ2, Lib.hid (by omega), HT.out.step (by exact (by repeat (first | with_reducible exact Below.refl _ _ | with_reducible assumption | with_reducible refine Below.drew ?_ | with_reducible refine Below.drewN ?_ _ | with_reducible refine Below.alloc2 ?_ _ | with_reducible refine Below.alloc ?_ (by first | omega | (simp <;> omega)) _ | with_reducible refine Below.setCell ?_ (by first | omega | (simp <;> omega)) _ | with_reducible refine Below.step2 (by with_reducible assumption) ?_ | with_reducible refine Below.step (by with_reducible assumption) ?_ (by first | omega | (simp <;> omega))))), (by repeat (first | with_reducible exact Below.refl _ _ | with_reducible assumption | with_reducible refine Below.drew ?_ | with_reducible refine Below.drewN ?_ _ | with_reducible refine Below.alloc2 ?_ _ | with_reducible refine Below.alloc ?_ (by first | omega | (simp <;> omega)) _ | with_reducible refine Below.setCell ?_ (by first | omega | (simp <;> omega)) _ | with_reducible refine Below.step2 (by with_reducible assumption) ?_ | with_reducible refine Below.step (by with_reducible assumption) ?_ (by first | omega | (simp <;> omega))))⟩
        case round =>
          obtain ⟨wv, j, Os2, hj0, rfl, rfl, HQ3, HW, ht1, hb1⟩ := hrel
          have HB1 := Lib.hid hb1
          have HT1 := Lib.hid ht1
          have ow1 := hb1.size
          have hww := HW.out
          have HOL : Hid (Os2.length ≤ 1000) := Lib.hid (by
            have := congrArg List.length HQ3.out
            rw [List.length_append] at this
            have := HLR.out
            omega)
          obtain ⟨b5, o5, x5, e5, hb5, hx5, c0, c1, c2, c3⟩ := (H.out _ hb1).mv hlt
          injection e5 with e5
          injection e5 with e5 e6
          subst e5; subst e6
          obtain rfl : x5 = ⟨xd, xk, xp, xn⟩ := by rw [HX.out] at hx5; exact (Option.some.inj hx5).symm
          dsimp only at c0 c1 c2 c3
          clear hx5
          by_cases hj : j < n
          · obtain ⟨b6, o6, ⟨yd, yk, yp, yn⟩, e7, -, hy, g0, g1, g2, g3⟩ := (H.out _ hb1).mv hj
            injection e7 with e7
            injection e7 with e7 e8
            subst e7; subst e8
            dsimp only at g0 g1 g2 g3
            have HY := Lib.hid hy
            have hoky := List.all_eq_true.1 HOK.out _ (List.mem_of_getElem? hy)
            unfold okM at hoky
            simp only [Bool.and_eq_true] at hoky
            have hny := inR_iff.1 hoky.2
            (try dsimp only at hny)
            have y1 : (0 : Int) ≤ (j : Int) := by omega
            have y2 : (j : Int) < (n : Int) := by omega
            have HS1 : Hid (∀ W, Below wr.heap.size wr W → W.cell? ⟨b, o + k * 4, none⟩ = some (.int .i64 xd) ∧ W.cell? ⟨b, o + j * 4, none⟩ = some (.int .i64 yd) ∧ W.cell? ⟨b, o + j * 4 + 1, none⟩ = some (.int .i64 yk)) := Lib.hid fun W hW =>
              have hbw : b < wr.heap.size := by omega
              ⟨(World.cell?_of_block (a := ⟨b, o + k * 4, none⟩) (hW.block b hbw)).trans c0, (World.cell?_of_block (a := ⟨b, o + j * 4, none⟩) (hW.block b hbw)).trans g0, (World.cell?_of_block (a := ⟨b, o + j * 4 + 1, none⟩) (hW.block b hbw)).trans g1⟩
            obtain ⟨u, hu⟩ : ∃ u, (yp.toList == p.toList) = u := ⟨_, rfl⟩
            have HU : Hid (eqS yp p = u) := Lib.hid hu
            have HQ4 := HQ3.out
            rw [drop_step hy] at HQ4
            have hw2 : IntKind.i64.wrap (wv + yn) = wv + yn := IntWalk.i64_in _ (by omega)
            clear hy hoky hb1 ht1
            by_cases hgo : u = true ∧ yk ≠ 0
            · obtain ⟨rfl, h0⟩ := hgo
              rw [scan_yes HU.out h0] at HQ4
              dsimp only at HQ4
              have HN1 := Lib.hid HQ4
              have t0 : (yk == 0) = false := by simpa using h0
              clear h0 HQ4
              by_cases m1 : ¬ wv + yn < cc + xn
              · by_cases m2 : cc < wv
                · have HM := Lib.hid trivial
                  have eX : min (cc + xn) (wv + yn) - max cc wv = cc + xn - wv := by omega
                  have hw3 : IntKind.i64.wrap (cc + xn - wv) = cc + xn - wv := IntWalk.i64_in _ (by omega)
                  have HN0 := HN1.out
                  rw [eX] at HN0
                  by_cases hp : 0 < cc + xn - wv
                  · rw [if_pos hp] at HN0
                    have HN := Lib.hid HN0
                    clear HN0 eX
                    (
                    go_upto_region 15 with fail
                    refine region_goes (n := 22) (fun w' => w'.cell? ⟨b, o + k * 4, none⟩ = some (.int .i64 xd) ∧ w'.cell? ⟨b, o + j * 4, none⟩ = some (.int .i64 yd) ∧ w'.cell? ⟨b, o + j * 4 + 1, none⟩ = some (.int .i64 yk)) [20, 21] (by kernel_rfl) rfl ?_
                    refine goes_takeE (i := 0) (E := [20, 21]) (v := u5) rfl (by kernel_rfl) rfl (fun _ _ _ h => h) (by intro w' hw'; obtain ⟨z0, z1, z2⟩ := hw'; go_simp) ⟨c0, g0, g1⟩ ?_
                    refine goes_takeE (i := 1) (E := [18, 19, 20, 21]) (v := .string p) rfl (by kernel_rfl) rfl (fun _ _ _ h => h) (by intro w' hw'; obtain ⟨z0, z1, z2⟩ := hw'; go_simp) ⟨c0, g0, g1⟩ ?_
                    refine goes_takeE (i := 2) (E := [18, 19, 20, 21]) (v := .int .i64 (cc + xn - wv)) rfl (by kernel_rfl) rfl (fun _ _ _ h => h) (by intro w' hw'; obtain ⟨z0, z1, z2⟩ := hw'; go_simp) ⟨c0, g0, g1⟩ ?_
                    refine goes_takeE (i := 3) (E := [5, 6, 7, 18, 19, 20, 21]) (v := .slice (some ⟨b, o, none⟩) n c) rfl (by kernel_rfl) rfl (fun _ _ _ h => h) (by intro w' hw'; obtain ⟨z0, z1, z2⟩ := hw'; go_simp) ⟨c0, g0, g1⟩ ?_
                    refine goes_takeE (i := 4) (E := [5, 6, 7, 18, 19, 20, 21]) (v := .int .i64 (k : Int)) rfl (by kernel_rfl) rfl (fun _ _ _ h => h) (by intro w' hw'; obtain ⟨z0, z1, z2⟩ := hw'; go_simp) ⟨c0, g0, g1⟩ ?_
                    refine goes_takeE (i := 5) (E := [6, 7, 18, 19, 20, 21]) (v := .pointer (some ⟨b, o + k * 4, none⟩)) rfl (by kernel_rfl) rfl (fun _ _ _ h => h) (by intro w' hw'; obtain ⟨z0, z1, z2⟩ := hw'; go_simp) ⟨c0, g0, g1⟩ ?_
                    refine goes_takeE (i := 6) (E := [7, 18, 19, 20, 21]) (v := .pointer (some ⟨b, o + k * 4, none⟩)) rfl (by kernel_rfl) rfl (fun _ _ _ h => h) (by intro w' hw'; obtain ⟨z0, z1, z2⟩ := hw'; go_simp) ⟨c0, g0, g1⟩ ?_
                    refine goes_takeE (i := 7) (E := [18, 19, 20, 21]) (v := .int .i64 xd) rfl (by kernel_rfl) rfl (fun _ _ _ h => h) (by intro w' hw'; obtain ⟨z0, z1, z2⟩ := hw'; go_simp) ⟨c0, g0, g1⟩ ?_
                    refine goes_takeE (i := 8) (E := [10, 11, 12, 18, 19, 20, 21]) (v := .slice (some ⟨b, o, none⟩) n c) rfl (by kernel_rfl) rfl (fun _ _ _ h => h) (by intro w' hw'; obtain ⟨z0, z1, z2⟩ := hw'; go_simp) ⟨c0, g0, g1⟩ ?_
                    refine goes_takeE (i := 9) (E := [10, 11, 12, 18, 19, 20, 21]) (v := .int .i64 (j : Int)) rfl (by kernel_rfl) rfl (fun _ _ _ h => h) (by intro w' hw'; obtain ⟨z0, z1, z2⟩ := hw'; go_simp) ⟨c0, g0, g1⟩ ?_
                    refine goes_takeE (i := 10) (E := [11, 12, 18, 19, 20, 21]) (v := .pointer (some ⟨b, o + j * 4, none⟩)) rfl (by kernel_rfl) rfl (fun _ _ _ h => h) (by intro w' hw'; obtain ⟨z0, z1, z2⟩ := hw'; go_simp) ⟨c0, g0, g1⟩ ?_
                    refine goes_takeE (i := 11) (E := [12, 18, 19, 20, 21]) (v := .pointer (some ⟨b, o + j * 4, none⟩)) rfl (by kernel_rfl) rfl (fun _ _ _ h => h) (by intro w' hw'; obtain ⟨z0, z1, z2⟩ := hw'; go_simp) ⟨c0, g0, g1⟩ ?_
                    refine goes_takeE (i := 12) (E := [18, 19, 20, 21]) (v := .int .i64 yd) rfl (by kernel_rfl) rfl (fun _ _ _ h => h) (by intro w' hw'; obtain ⟨z0, z1, z2⟩ := hw'; go_simp) ⟨c0, g0, g1⟩ ?_
                    refine goes_takeE (i := 13) (E := [15, 16, 17, 18, 19, 20, 21]) (v := .slice (some ⟨b, o, none⟩) n c) rfl (by kernel_rfl) rfl (fun _ _ _ h => h) (by intro w' hw'; obtain ⟨z0, z1, z2⟩ := hw'; go_simp) ⟨c0, g0, g1⟩ ?_
                    refine goes_takeE (i := 14) (E := [15, 16, 17, 18, 19, 20, 21]) (v := .int .i64 (j : Int)) rfl (by kernel_rfl) rfl (fun _ _ _ h => h) (by intro w' hw'; obtain ⟨z0, z1, z2⟩ := hw'; go_simp) ⟨c0, g0, g1⟩ ?_
                    refine goes_takeE (i := 15) (E := [16, 17, 18, 19, 20, 21]) (v := .pointer (some ⟨b, o + j * 4, none⟩)) rfl (by kernel_rfl) rfl (fun _ _ _ h => h) (by intro w' hw'; obtain ⟨z0, z1, z2⟩ := hw'; go_simp) ⟨c0, g0, g1⟩ ?_
                    refine goes_takeE (i := 16) (E := [17, 18, 19, 20, 21]) (v := .pointer (some ⟨b, o + j * 4 + 1, none⟩)) rfl (by kernel_rfl) rfl (fun _ _ _ h => h) (by intro w' hw'; obtain ⟨z0, z1, z2⟩ := hw'; go_simp) ⟨c0, g0, g1⟩ ?_
                    refine goes_takeE (i := 17) (E := [18, 19, 20, 21]) (v := .int .i64 yk) rfl (by kernel_rfl) rfl (fun _ _ _ h => h) (by intro w' hw'; obtain ⟨z0, z1, z2⟩ := hw'; go_simp) ⟨c0, g0, g1⟩ ?_
                    refine goes_takeE (i := 18) (E := [19, 20, 21]) (v := .agg #[.string p, .int .i64 (cc + xn - wv), .int .i64 xd, .int .i64 yd, .int .i64 yk]) rfl (by kernel_rfl) rfl (fun _ _ _ h => h) (by intro w' hw'; obtain ⟨z0, z1, z2⟩ := hw'; go_simp) ⟨c0, g0, g1⟩ ?_
                    refine goes_call (i := 19) rfl (by kernel_rfl) ?_
                    go_wp2
                    refine behind_ok ⟨HS1.out _ (by exact (by repeat (first | with_reducible exact Below.refl _ _ | with_reducible assumption | with_reducible refine Below.drew ?_ | with_reducible refine Below.drewN ?_ _ | with_reducible refine Below.alloc2 ?_ _ | with_reducible refine Below.alloc ?_ (by first | omega | (simp <;> omega)) _ | with_reducible refine Below.setCell ?_ (by first | omega | (simp <;> omega)) _ | with_reducible refine Below.step2 (by with_reducible assumption) ?_ | with_reducible refine Below.step (by with_reducible assumption) ?_ (by first | omega | (simp <;> omega))))), ?_⟩
                    refine goes_last (i := 20) rfl (by kernel_rfl) (by kernel_rfl) ?_
                    refine Two.app_went (base := w.heap.size) (W := Os2) (H := []) (vh := .slice none 0 0) ?_ rfl _ _ rfl rfl ⟨p, cc + xn - wv, xd, yd, yk⟩ _ rfl ?_ HOL.out ?_ ?_
                    · exact HT1.out.step (by exact (by repeat (first | with_reducible exact Below.refl _ _ | with_reducible assumption | with_reducible refine Below.drew ?_ | with_reducible refine Below.drewN ?_ _ | with_reducible refine Below.alloc2 ?_ _ | with_reducible refine Below.alloc ?_ (by first | omega | (simp <;> omega)) _ | with_reducible refine Below.setCell ?_ (by first | omega | (simp <;> omega)) _ | with_reducible refine Below.step2 (by with_reducible assumption) ?_ | with_reducible refine Below.step (by with_reducible assumption) ?_ (by first | omega | (simp <;> omega)))))
                    · show Bk _ _ _ #[.string p, .int .i64 (cc + xn - wv), .int .i64 xd, .int .i64 yd, .int .i64 yk]
                      exact (by repeat (first | with_reducible assumption | with_reducible exact Bk.at_ (by first | (simp; done) | omega) | with_reducible refine Bk.alloc ?_ _ | with_reducible refine Bk.drew ?_ | with_reducible refine Bk.drewN ?_ _ | with_reducible refine Bk.step (by with_reducible assumption) ?_ (by first | omega | (simp <;> omega))))
                    · simp; omega
                    intro v2 w2 ht2 hg2 _
                    have HT2 := Lib.hid ht2
                    have HB2 : Hid (Below w.heap.size w w2) := Lib.hid (by
                      have hb0 := HB1.out
                      exact Below.grown_ (D := w.heap.size) (by exact (by repeat (first | with_reducible exact Below.refl _ _ | with_reducible assumption | with_reducible refine Below.drew ?_ | with_reducible refine Below.drewN ?_ _ | with_reducible refine Below.alloc2 ?_ _ | with_reducible refine Below.alloc ?_ (by first | omega | (simp <;> omega)) _ | with_reducible refine Below.setCell ?_ (by first | omega | (simp <;> omega)) _ | with_reducible refine Below.step2 (by with_reducible assumption) ?_ | with_reducible refine Below.step (by with_reducible assumption) ?_ (by first | omega | (simp <;> omega))))) hg2 (by simp; omega) (fun q hq => (HT1.out.own.lt q hq).1))
                    have ow2 := HB2.out.size
                    obtain ⟨b3, o3, y3, e3, -, hy3, -, -, -, t3⟩ := (H.out _ HB2.out).mv hj
                    injection e3 with e3
                    injection e3 with e3 e4
                    subst e3; subst e4
                    obtain rfl : y3 = ⟨yd, yk, yp, yn⟩ := by rw [HY.out] at hy3; exact (Option.some.inj hy3).symm
                    dsimp only at t3
                    clear ht2 hg2 hy3
                    go_wp2
                    refine behind_ok ?_
                    refine goes_last (i := 21) rfl (by kernel_rfl) (by kernel_rfl) ?_
                    go_wp2
                    refine behind_ok (goes_done (by kernel_rfl) ?_)
                    go_wp2
                    refine ⟨⟨wv + yn, j + 1, Os2 ++ [⟨p, cc + xn - wv, xd, yd, yk⟩], by omega, rfl, by go_num, Lib.hid ?_, Lib.hid (by omega), HT2.out, HB2.out⟩, by simp [intOf]; omega⟩
                    rw [← HN.out]
                    simp
                    )
                  · rw [if_neg hp] at HN0
                    have HN := Lib.hid HN0
                    clear HN0 eX
                    go_wp2
                    go_roundw
                    case rel => exact ⟨wv + yn, j + 1, Os2, by omega, by go_num, by go_num, Lib.hid (by rw [← HN.out]; simp), Lib.hid (by omega), HT1.out, HB1.out⟩
                    case measure => simp [intOf]; omega
                · have HM := Lib.hid trivial
                  have eX : min (cc + xn) (wv + yn) - max cc wv = cc + xn - cc := by omega
                  have hw3 : IntKind.i64.wrap (cc + xn - cc) = cc + xn - cc := IntWalk.i64_in _ (by omega)
                  have HN0 := HN1.out
                  rw [eX] at HN0
                  by_cases hp : 0 < cc + xn - cc
                  · rw [if_pos hp] at HN0
                    have HN := Lib.hid HN0
                    clear HN0 eX
                    (
                    go_upto_region 15 with fail
                    refine region_goes (n := 22) (fun w' => w'.cell? ⟨b, o + k * 4, none⟩ = some (.int .i64 xd) ∧ w'.cell? ⟨b, o + j * 4, none⟩ = some (.int .i64 yd) ∧ w'.cell? ⟨b, o + j * 4 + 1, none⟩ = some (.int .i64 yk)) [20, 21] (by kernel_rfl) rfl ?_
                    refine goes_takeE (i := 0) (E := [20, 21]) (v := u5) rfl (by kernel_rfl) rfl (fun _ _ _ h => h) (by intro w' hw'; obtain ⟨z0, z1, z2⟩ := hw'; go_simp) ⟨c0, g0, g1⟩ ?_
                    refine goes_takeE (i := 1) (E := [18, 19, 20, 21]) (v := .string p) rfl (by kernel_rfl) rfl (fun _ _ _ h => h) (by intro w' hw'; obtain ⟨z0, z1, z2⟩ := hw'; go_simp) ⟨c0, g0, g1⟩ ?_
                    refine goes_takeE (i := 2) (E := [18, 19, 20, 21]) (v := .int .i64 (cc + xn - cc)) rfl (by kernel_rfl) rfl (fun _ _ _ h => h) (by intro w' hw'; obtain ⟨z0, z1, z2⟩ := hw'; go_simp) ⟨c0, g0, g1⟩ ?_
                    refine goes_takeE (i := 3) (E := [5, 6, 7, 18, 19, 20, 21]) (v := .slice (some ⟨b, o, none⟩) n c) rfl (by kernel_rfl) rfl (fun _ _ _ h => h) (by intro w' hw'; obtain ⟨z0, z1, z2⟩ := hw'; go_simp) ⟨c0, g0, g1⟩ ?_
                    refine goes_takeE (i := 4) (E := [5, 6, 7, 18, 19, 20, 21]) (v := .int .i64 (k : Int)) rfl (by kernel_rfl) rfl (fun _ _ _ h => h) (by intro w' hw'; obtain ⟨z0, z1, z2⟩ := hw'; go_simp) ⟨c0, g0, g1⟩ ?_
                    refine goes_takeE (i := 5) (E := [6, 7, 18, 19, 20, 21]) (v := .pointer (some ⟨b, o + k * 4, none⟩)) rfl (by kernel_rfl) rfl (fun _ _ _ h => h) (by intro w' hw'; obtain ⟨z0, z1, z2⟩ := hw'; go_simp) ⟨c0, g0, g1⟩ ?_
                    refine goes_takeE (i := 6) (E := [7, 18, 19, 20, 21]) (v := .pointer (some ⟨b, o + k * 4, none⟩)) rfl (by kernel_rfl) rfl (fun _ _ _ h => h) (by intro w' hw'; obtain ⟨z0, z1, z2⟩ := hw'; go_simp) ⟨c0, g0, g1⟩ ?_
                    refine goes_takeE (i := 7) (E := [18, 19, 20, 21]) (v := .int .i64 xd) rfl (by kernel_rfl) rfl (fun _ _ _ h => h) (by intro w' hw'; obtain ⟨z0, z1, z2⟩ := hw'; go_simp) ⟨c0, g0, g1⟩ ?_
                    refine goes_takeE (i := 8) (E := [10, 11, 12, 18, 19, 20, 21]) (v := .slice (some ⟨b, o, none⟩) n c) rfl (by kernel_rfl) rfl (fun _ _ _ h => h) (by intro w' hw'; obtain ⟨z0, z1, z2⟩ := hw'; go_simp) ⟨c0, g0, g1⟩ ?_
                    refine goes_takeE (i := 9) (E := [10, 11, 12, 18, 19, 20, 21]) (v := .int .i64 (j : Int)) rfl (by kernel_rfl) rfl (fun _ _ _ h => h) (by intro w' hw'; obtain ⟨z0, z1, z2⟩ := hw'; go_simp) ⟨c0, g0, g1⟩ ?_
                    refine goes_takeE (i := 10) (E := [11, 12, 18, 19, 20, 21]) (v := .pointer (some ⟨b, o + j * 4, none⟩)) rfl (by kernel_rfl) rfl (fun _ _ _ h => h) (by intro w' hw'; obtain ⟨z0, z1, z2⟩ := hw'; go_simp) ⟨c0, g0, g1⟩ ?_
                    refine goes_takeE (i := 11) (E := [12, 18, 19, 20, 21]) (v := .pointer (some ⟨b, o + j * 4, none⟩)) rfl (by kernel_rfl) rfl (fun _ _ _ h => h) (by intro w' hw'; obtain ⟨z0, z1, z2⟩ := hw'; go_simp) ⟨c0, g0, g1⟩ ?_
                    refine goes_takeE (i := 12) (E := [18, 19, 20, 21]) (v := .int .i64 yd) rfl (by kernel_rfl) rfl (fun _ _ _ h => h) (by intro w' hw'; obtain ⟨z0, z1, z2⟩ := hw'; go_simp) ⟨c0, g0, g1⟩ ?_
                    refine goes_takeE (i := 13) (E := [15, 16, 17, 18, 19, 20, 21]) (v := .slice (some ⟨b, o, none⟩) n c) rfl (by kernel_rfl) rfl (fun _ _ _ h => h) (by intro w' hw'; obtain ⟨z0, z1, z2⟩ := hw'; go_simp) ⟨c0, g0, g1⟩ ?_
                    refine goes_takeE (i := 14) (E := [15, 16, 17, 18, 19, 20, 21]) (v := .int .i64 (j : Int)) rfl (by kernel_rfl) rfl (fun _ _ _ h => h) (by intro w' hw'; obtain ⟨z0, z1, z2⟩ := hw'; go_simp) ⟨c0, g0, g1⟩ ?_
                    refine goes_takeE (i := 15) (E := [16, 17, 18, 19, 20, 21]) (v := .pointer (some ⟨b, o + j * 4, none⟩)) rfl (by kernel_rfl) rfl (fun _ _ _ h => h) (by intro w' hw'; obtain ⟨z0, z1, z2⟩ := hw'; go_simp) ⟨c0, g0, g1⟩ ?_
                    refine goes_takeE (i := 16) (E := [17, 18, 19, 20, 21]) (v := .pointer (some ⟨b, o + j * 4 + 1, none⟩)) rfl (by kernel_rfl) rfl (fun _ _ _ h => h) (by intro w' hw'; obtain ⟨z0, z1, z2⟩ := hw'; go_simp) ⟨c0, g0, g1⟩ ?_
                    refine goes_takeE (i := 17) (E := [18, 19, 20, 21]) (v := .int .i64 yk) rfl (by kernel_rfl) rfl (fun _ _ _ h => h) (by intro w' hw'; obtain ⟨z0, z1, z2⟩ := hw'; go_simp) ⟨c0, g0, g1⟩ ?_
                    refine goes_takeE (i := 18) (E := [19, 20, 21]) (v := .agg #[.string p, .int .i64 (cc + xn - cc), .int .i64 xd, .int .i64 yd, .int .i64 yk]) rfl (by kernel_rfl) rfl (fun _ _ _ h => h) (by intro w' hw'; obtain ⟨z0, z1, z2⟩ := hw'; go_simp) ⟨c0, g0, g1⟩ ?_
                    refine goes_call (i := 19) rfl (by kernel_rfl) ?_
                    go_wp2
                    refine behind_ok ⟨HS1.out _ (by exact (by repeat (first | with_reducible exact Below.refl _ _ | with_reducible assumption | with_reducible refine Below.drew ?_ | with_reducible refine Below.drewN ?_ _ | with_reducible refine Below.alloc2 ?_ _ | with_reducible refine Below.alloc ?_ (by first | omega | (simp <;> omega)) _ | with_reducible refine Below.setCell ?_ (by first | omega | (simp <;> omega)) _ | with_reducible refine Below.step2 (by with_reducible assumption) ?_ | with_reducible refine Below.step (by with_reducible assumption) ?_ (by first | omega | (simp <;> omega))))), ?_⟩
                    refine goes_last (i := 20) rfl (by kernel_rfl) (by kernel_rfl) ?_
                    refine Two.app_went (base := w.heap.size) (W := Os2) (H := []) (vh := .slice none 0 0) ?_ rfl _ _ rfl rfl ⟨p, cc + xn - cc, xd, yd, yk⟩ _ rfl ?_ HOL.out ?_ ?_
                    · exact HT1.out.step (by exact (by repeat (first | with_reducible exact Below.refl _ _ | with_reducible assumption | with_reducible refine Below.drew ?_ | with_reducible refine Below.drewN ?_ _ | with_reducible refine Below.alloc2 ?_ _ | with_reducible refine Below.alloc ?_ (by first | omega | (simp <;> omega)) _ | with_reducible refine Below.setCell ?_ (by first | omega | (simp <;> omega)) _ | with_reducible refine Below.step2 (by with_reducible assumption) ?_ | with_reducible refine Below.step (by with_reducible assumption) ?_ (by first | omega | (simp <;> omega)))))
                    · show Bk _ _ _ #[.string p, .int .i64 (cc + xn - cc), .int .i64 xd, .int .i64 yd, .int .i64 yk]
                      exact (by repeat (first | with_reducible assumption | with_reducible exact Bk.at_ (by first | (simp; done) | omega) | with_reducible refine Bk.alloc ?_ _ | with_reducible refine Bk.drew ?_ | with_reducible refine Bk.drewN ?_ _ | with_reducible refine Bk.step (by with_reducible assumption) ?_ (by first | omega | (simp <;> omega))))
                    · simp; omega
                    intro v2 w2 ht2 hg2 _
                    have HT2 := Lib.hid ht2
                    have HB2 : Hid (Below w.heap.size w w2) := Lib.hid (by
                      have hb0 := HB1.out
                      exact Below.grown_ (D := w.heap.size) (by exact (by repeat (first | with_reducible exact Below.refl _ _ | with_reducible assumption | with_reducible refine Below.drew ?_ | with_reducible refine Below.drewN ?_ _ | with_reducible refine Below.alloc2 ?_ _ | with_reducible refine Below.alloc ?_ (by first | omega | (simp <;> omega)) _ | with_reducible refine Below.setCell ?_ (by first | omega | (simp <;> omega)) _ | with_reducible refine Below.step2 (by with_reducible assumption) ?_ | with_reducible refine Below.step (by with_reducible assumption) ?_ (by first | omega | (simp <;> omega))))) hg2 (by simp; omega) (fun q hq => (HT1.out.own.lt q hq).1))
                    have ow2 := HB2.out.size
                    obtain ⟨b3, o3, y3, e3, -, hy3, -, -, -, t3⟩ := (H.out _ HB2.out).mv hj
                    injection e3 with e3
                    injection e3 with e3 e4
                    subst e3; subst e4
                    obtain rfl : y3 = ⟨yd, yk, yp, yn⟩ := by rw [HY.out] at hy3; exact (Option.some.inj hy3).symm
                    dsimp only at t3
                    clear ht2 hg2 hy3
                    go_wp2
                    refine behind_ok ?_
                    refine goes_last (i := 21) rfl (by kernel_rfl) (by kernel_rfl) ?_
                    go_wp2
                    refine behind_ok (goes_done (by kernel_rfl) ?_)
                    go_wp2
                    refine ⟨⟨wv + yn, j + 1, Os2 ++ [⟨p, cc + xn - cc, xd, yd, yk⟩], by omega, rfl, by go_num, Lib.hid ?_, Lib.hid (by omega), HT2.out, HB2.out⟩, by simp [intOf]; omega⟩
                    rw [← HN.out]
                    simp
                    )
                  · exfalso
                    omega
              · have m1 : wv + yn < cc + xn := Classical.byContradiction m1
                by_cases m2 : cc < wv
                · have HM := Lib.hid trivial
                  have eX : min (cc + xn) (wv + yn) - max cc wv = wv + yn - wv := by omega
                  have hw3 : IntKind.i64.wrap (wv + yn - wv) = wv + yn - wv := IntWalk.i64_in _ (by omega)
                  have HN0 := HN1.out
                  rw [eX] at HN0
                  by_cases hp : 0 < wv + yn - wv
                  · rw [if_pos hp] at HN0
                    have HN := Lib.hid HN0
                    clear HN0 eX
                    (
                    go_upto_region 15 with fail
                    refine region_goes (n := 22) (fun w' => w'.cell? ⟨b, o + k * 4, none⟩ = some (.int .i64 xd) ∧ w'.cell? ⟨b, o + j * 4, none⟩ = some (.int .i64 yd) ∧ w'.cell? ⟨b, o + j * 4 + 1, none⟩ = some (.int .i64 yk)) [20, 21] (by kernel_rfl) rfl ?_
                    refine goes_takeE (i := 0) (E := [20, 21]) (v := u5) rfl (by kernel_rfl) rfl (fun _ _ _ h => h) (by intro w' hw'; obtain ⟨z0, z1, z2⟩ := hw'; go_simp) ⟨c0, g0, g1⟩ ?_
                    refine goes_takeE (i := 1) (E := [18, 19, 20, 21]) (v := .string p) rfl (by kernel_rfl) rfl (fun _ _ _ h => h) (by intro w' hw'; obtain ⟨z0, z1, z2⟩ := hw'; go_simp) ⟨c0, g0, g1⟩ ?_
                    refine goes_takeE (i := 2) (E := [18, 19, 20, 21]) (v := .int .i64 (wv + yn - wv)) rfl (by kernel_rfl) rfl (fun _ _ _ h => h) (by intro w' hw'; obtain ⟨z0, z1, z2⟩ := hw'; go_simp) ⟨c0, g0, g1⟩ ?_
                    refine goes_takeE (i := 3) (E := [5, 6, 7, 18, 19, 20, 21]) (v := .slice (some ⟨b, o, none⟩) n c) rfl (by kernel_rfl) rfl (fun _ _ _ h => h) (by intro w' hw'; obtain ⟨z0, z1, z2⟩ := hw'; go_simp) ⟨c0, g0, g1⟩ ?_
                    refine goes_takeE (i := 4) (E := [5, 6, 7, 18, 19, 20, 21]) (v := .int .i64 (k : Int)) rfl (by kernel_rfl) rfl (fun _ _ _ h => h) (by intro w' hw'; obtain ⟨z0, z1, z2⟩ := hw'; go_simp) ⟨c0, g0, g1⟩ ?_
                    refine goes_takeE (i := 5) (E := [6, 7, 18, 19, 20, 21]) (v := .pointer (some ⟨b, o + k * 4, none⟩)) rfl (by kernel_rfl) rfl (fun _ _ _ h => h) (by intro w' hw'; obtain ⟨z0, z1, z2⟩ := hw'; go_simp) ⟨c0, g0, g1⟩ ?_
                    refine goes_takeE (i := 6) (E := [7, 18, 19, 20, 21]) (v := .pointer (some ⟨b, o + k * 4, none⟩)) rfl (by kernel_rfl) rfl (fun _ _ _ h => h) (by intro w' hw'; obtain ⟨z0, z1, z2⟩ := hw'; go_simp) ⟨c0, g0, g1⟩ ?_
                    refine goes_takeE (i := 7) (E := [18, 19, 20, 21]) (v := .int .i64 xd) rfl (by kernel_rfl) rfl (fun _ _ _ h => h) (by intro w' hw'; obtain ⟨z0, z1, z2⟩ := hw'; go_simp) ⟨c0, g0, g1⟩ ?_
                    refine goes_takeE (i := 8) (E := [10, 11, 12, 18, 19, 20, 21]) (v := .slice (some ⟨b, o, none⟩) n c) rfl (by kernel_rfl) rfl (fun _ _ _ h => h) (by intro w' hw'; obtain ⟨z0, z1, z2⟩ := hw'; go_simp) ⟨c0, g0, g1⟩ ?_
                    refine goes_takeE (i := 9) (E := [10, 11, 12, 18, 19, 20, 21]) (v := .int .i64 (j : Int)) rfl (by kernel_rfl) rfl (fun _ _ _ h => h) (by intro w' hw'; obtain ⟨z0, z1, z2⟩ := hw'; go_simp) ⟨c0, g0, g1⟩ ?_
                    refine goes_takeE (i := 10) (E := [11, 12, 18, 19, 20, 21]) (v := .pointer (some ⟨b, o + j * 4, none⟩)) rfl (by kernel_rfl) rfl (fun _ _ _ h => h) (by intro w' hw'; obtain ⟨z0, z1, z2⟩ := hw'; go_simp) ⟨c0, g0, g1⟩ ?_
                    refine goes_takeE (i := 11) (E := [12, 18, 19, 20, 21]) (v := .pointer (some ⟨b, o + j * 4, none⟩)) rfl (by kernel_rfl) rfl (fun _ _ _ h => h) (by intro w' hw'; obtain ⟨z0, z1, z2⟩ := hw'; go_simp) ⟨c0, g0, g1⟩ ?_
                    refine goes_takeE (i := 12) (E := [18, 19, 20, 21]) (v := .int .i64 yd) rfl (by kernel_rfl) rfl (fun _ _ _ h => h) (by intro w' hw'; obtain ⟨z0, z1, z2⟩ := hw'; go_simp) ⟨c0, g0, g1⟩ ?_
                    refine goes_takeE (i := 13) (E := [15, 16, 17, 18, 19, 20, 21]) (v := .slice (some ⟨b, o, none⟩) n c) rfl (by kernel_rfl) rfl (fun _ _ _ h => h) (by intro w' hw'; obtain ⟨z0, z1, z2⟩ := hw'; go_simp) ⟨c0, g0, g1⟩ ?_
                    refine goes_takeE (i := 14) (E := [15, 16, 17, 18, 19, 20, 21]) (v := .int .i64 (j : Int)) rfl (by kernel_rfl) rfl (fun _ _ _ h => h) (by intro w' hw'; obtain ⟨z0, z1, z2⟩ := hw'; go_simp) ⟨c0, g0, g1⟩ ?_
                    refine goes_takeE (i := 15) (E := [16, 17, 18, 19, 20, 21]) (v := .pointer (some ⟨b, o + j * 4, none⟩)) rfl (by kernel_rfl) rfl (fun _ _ _ h => h) (by intro w' hw'; obtain ⟨z0, z1, z2⟩ := hw'; go_simp) ⟨c0, g0, g1⟩ ?_
                    refine goes_takeE (i := 16) (E := [17, 18, 19, 20, 21]) (v := .pointer (some ⟨b, o + j * 4 + 1, none⟩)) rfl (by kernel_rfl) rfl (fun _ _ _ h => h) (by intro w' hw'; obtain ⟨z0, z1, z2⟩ := hw'; go_simp) ⟨c0, g0, g1⟩ ?_
                    refine goes_takeE (i := 17) (E := [18, 19, 20, 21]) (v := .int .i64 yk) rfl (by kernel_rfl) rfl (fun _ _ _ h => h) (by intro w' hw'; obtain ⟨z0, z1, z2⟩ := hw'; go_simp) ⟨c0, g0, g1⟩ ?_
                    refine goes_takeE (i := 18) (E := [19, 20, 21]) (v := .agg #[.string p, .int .i64 (wv + yn - wv), .int .i64 xd, .int .i64 yd, .int .i64 yk]) rfl (by kernel_rfl) rfl (fun _ _ _ h => h) (by intro w' hw'; obtain ⟨z0, z1, z2⟩ := hw'; go_simp) ⟨c0, g0, g1⟩ ?_
                    refine goes_call (i := 19) rfl (by kernel_rfl) ?_
                    go_wp2
                    refine behind_ok ⟨HS1.out _ (by exact (by repeat (first | with_reducible exact Below.refl _ _ | with_reducible assumption | with_reducible refine Below.drew ?_ | with_reducible refine Below.drewN ?_ _ | with_reducible refine Below.alloc2 ?_ _ | with_reducible refine Below.alloc ?_ (by first | omega | (simp <;> omega)) _ | with_reducible refine Below.setCell ?_ (by first | omega | (simp <;> omega)) _ | with_reducible refine Below.step2 (by with_reducible assumption) ?_ | with_reducible refine Below.step (by with_reducible assumption) ?_ (by first | omega | (simp <;> omega))))), ?_⟩
                    refine goes_last (i := 20) rfl (by kernel_rfl) (by kernel_rfl) ?_
                    refine Two.app_went (base := w.heap.size) (W := Os2) (H := []) (vh := .slice none 0 0) ?_ rfl _ _ rfl rfl ⟨p, wv + yn - wv, xd, yd, yk⟩ _ rfl ?_ HOL.out ?_ ?_
                    · exact HT1.out.step (by exact (by repeat (first | with_reducible exact Below.refl _ _ | with_reducible assumption | with_reducible refine Below.drew ?_ | with_reducible refine Below.drewN ?_ _ | with_reducible refine Below.alloc2 ?_ _ | with_reducible refine Below.alloc ?_ (by first | omega | (simp <;> omega)) _ | with_reducible refine Below.setCell ?_ (by first | omega | (simp <;> omega)) _ | with_reducible refine Below.step2 (by with_reducible assumption) ?_ | with_reducible refine Below.step (by with_reducible assumption) ?_ (by first | omega | (simp <;> omega)))))
                    · show Bk _ _ _ #[.string p, .int .i64 (wv + yn - wv), .int .i64 xd, .int .i64 yd, .int .i64 yk]
                      exact (by repeat (first | with_reducible assumption | with_reducible exact Bk.at_ (by first | (simp; done) | omega) | with_reducible refine Bk.alloc ?_ _ | with_reducible refine Bk.drew ?_ | with_reducible refine Bk.drewN ?_ _ | with_reducible refine Bk.step (by with_reducible assumption) ?_ (by first | omega | (simp <;> omega))))
                    · simp; omega
                    intro v2 w2 ht2 hg2 _
                    have HT2 := Lib.hid ht2
                    have HB2 : Hid (Below w.heap.size w w2) := Lib.hid (by
                      have hb0 := HB1.out
                      exact Below.grown_ (D := w.heap.size) (by exact (by repeat (first | with_reducible exact Below.refl _ _ | with_reducible assumption | with_reducible refine Below.drew ?_ | with_reducible refine Below.drewN ?_ _ | with_reducible refine Below.alloc2 ?_ _ | with_reducible refine Below.alloc ?_ (by first | omega | (simp <;> omega)) _ | with_reducible refine Below.setCell ?_ (by first | omega | (simp <;> omega)) _ | with_reducible refine Below.step2 (by with_reducible assumption) ?_ | with_reducible refine Below.step (by with_reducible assumption) ?_ (by first | omega | (simp <;> omega))))) hg2 (by simp; omega) (fun q hq => (HT1.out.own.lt q hq).1))
                    have ow2 := HB2.out.size
                    obtain ⟨b3, o3, y3, e3, -, hy3, -, -, -, t3⟩ := (H.out _ HB2.out).mv hj
                    injection e3 with e3
                    injection e3 with e3 e4
                    subst e3; subst e4
                    obtain rfl : y3 = ⟨yd, yk, yp, yn⟩ := by rw [HY.out] at hy3; exact (Option.some.inj hy3).symm
                    dsimp only at t3
                    clear ht2 hg2 hy3
                    go_wp2
                    refine behind_ok ?_
                    refine goes_last (i := 21) rfl (by kernel_rfl) (by kernel_rfl) ?_
                    go_wp2
                    refine behind_ok (goes_done (by kernel_rfl) ?_)
                    go_wp2
                    refine ⟨⟨wv + yn, j + 1, Os2 ++ [⟨p, wv + yn - wv, xd, yd, yk⟩], by omega, rfl, by go_num, Lib.hid ?_, Lib.hid (by omega), HT2.out, HB2.out⟩, by simp [intOf]; omega⟩
                    rw [← HN.out]
                    simp
                    )
                  · exfalso
                    omega
                · have HM := Lib.hid trivial
                  have eX : min (cc + xn) (wv + yn) - max cc wv = wv + yn - cc := by omega
                  have hw3 : IntKind.i64.wrap (wv + yn - cc) = wv + yn - cc := IntWalk.i64_in _ (by omega)
                  have HN0 := HN1.out
                  rw [eX] at HN0
                  by_cases hp : 0 < wv + yn - cc
                  · rw [if_pos hp] at HN0
                    have HN := Lib.hid HN0
                    clear HN0 eX
                    (
                    go_upto_region 15 with fail
                    refine region_goes (n := 22) (fun w' => w'.cell? ⟨b, o + k * 4, none⟩ = some (.int .i64 xd) ∧ w'.cell? ⟨b, o + j * 4, none⟩ = some (.int .i64 yd) ∧ w'.cell? ⟨b, o + j * 4 + 1, none⟩ = some (.int .i64 yk)) [20, 21] (by kernel_rfl) rfl ?_
                    refine goes_takeE (i := 0) (E := [20, 21]) (v := u5) rfl (by kernel_rfl) rfl (fun _ _ _ h => h) (by intro w' hw'; obtain ⟨z0, z1, z2⟩ := hw'; go_simp) ⟨c0, g0, g1⟩ ?_
                    refine goes_takeE (i := 1) (E := [18, 19, 20, 21]) (v := .string p) rfl (by kernel_rfl) rfl (fun _ _ _ h => h) (by intro w' hw'; obtain ⟨z0, z1, z2⟩ := hw'; go_simp) ⟨c0, g0, g1⟩ ?_
                    refine goes_takeE (i := 2) (E := [18, 19, 20, 21]) (v := .int .i64 (wv + yn - cc)) rfl (by kernel_rfl) rfl (fun _ _ _ h => h) (by intro w' hw'; obtain ⟨z0, z1, z2⟩ := hw'; go_simp) ⟨c0, g0, g1⟩ ?_
                    refine goes_takeE (i := 3) (E := [5, 6, 7, 18, 19, 20, 21]) (v := .slice (some ⟨b, o, none⟩) n c) rfl (by kernel_rfl) rfl (fun _ _ _ h => h) (by intro w' hw'; obtain ⟨z0, z1, z2⟩ := hw'; go_simp) ⟨c0, g0, g1⟩ ?_
                    refine goes_takeE (i := 4) (E := [5, 6, 7, 18, 19, 20, 21]) (v := .int .i64 (k : Int)) rfl (by kernel_rfl) rfl (fun _ _ _ h => h) (by intro w' hw'; obtain ⟨z0, z1, z2⟩ := hw'; go_simp) ⟨c0, g0, g1⟩ ?_
                    refine goes_takeE (i := 5) (E := [6, 7, 18, 19, 20, 21]) (v := .pointer (some ⟨b, o + k * 4, none⟩)) rfl (by kernel_rfl) rfl (fun _ _ _ h => h) (by intro w' hw'; obtain ⟨z0, z1, z2⟩ := hw'; go_simp) ⟨c0, g0, g1⟩ ?_
                    refine goes_takeE (i := 6) (E := [7, 18, 19, 20, 21]) (v := .pointer (some ⟨b, o + k * 4, none⟩)) rfl (by kernel_rfl) rfl (fun _ _ _ h => h) (by intro w' hw'; obtain ⟨z0, z1, z2⟩ := hw'; go_simp) ⟨c0, g0, g1⟩ ?_
                    refine goes_takeE (i := 7) (E := [18, 19, 20, 21]) (v := .int .i64 xd) rfl (by kernel_rfl) rfl (fun _ _ _ h => h) (by intro w' hw'; obtain ⟨z0, z1, z2⟩ := hw'; go_simp) ⟨c0, g0, g1⟩ ?_
                    refine goes_takeE (i := 8) (E := [10, 11, 12, 18, 19, 20, 21]) (v := .slice (some ⟨b, o, none⟩) n c) rfl (by kernel_rfl) rfl (fun _ _ _ h => h) (by intro w' hw'; obtain ⟨z0, z1, z2⟩ := hw'; go_simp) ⟨c0, g0, g1⟩ ?_
                    refine goes_takeE (i := 9) (E := [10, 11, 12, 18, 19, 20, 21]) (v := .int .i64 (j : Int)) rfl (by kernel_rfl) rfl (fun _ _ _ h => h) (by intro w' hw'; obtain ⟨z0, z1, z2⟩ := hw'; go_simp) ⟨c0, g0, g1⟩ ?_
                    refine goes_takeE (i := 10) (E := [11, 12, 18, 19, 20, 21]) (v := .pointer (some ⟨b, o + j * 4, none⟩)) rfl (by kernel_rfl) rfl (fun _ _ _ h => h) (by intro w' hw'; obtain ⟨z0, z1, z2⟩ := hw'; go_simp) ⟨c0, g0, g1⟩ ?_
                    refine goes_takeE (i := 11) (E := [12, 18, 19, 20, 21]) (v := .pointer (some ⟨b, o + j * 4, none⟩)) rfl (by kernel_rfl) rfl (fun _ _ _ h => h) (by intro w' hw'; obtain ⟨z0, z1, z2⟩ := hw'; go_simp) ⟨c0, g0, g1⟩ ?_
                    refine goes_takeE (i := 12) (E := [18, 19, 20, 21]) (v := .int .i64 yd) rfl (by kernel_rfl) rfl (fun _ _ _ h => h) (by intro w' hw'; obtain ⟨z0, z1, z2⟩ := hw'; go_simp) ⟨c0, g0, g1⟩ ?_
                    refine goes_takeE (i := 13) (E := [15, 16, 17, 18, 19, 20, 21]) (v := .slice (some ⟨b, o, none⟩) n c) rfl (by kernel_rfl) rfl (fun _ _ _ h => h) (by intro w' hw'; obtain ⟨z0, z1, z2⟩ := hw'; go_simp) ⟨c0, g0, g1⟩ ?_
                    refine goes_takeE (i := 14) (E := [15, 16, 17, 18, 19, 20, 21]) (v := .int .i64 (j : Int)) rfl (by kernel_rfl) rfl (fun _ _ _ h => h) (by intro w' hw'; obtain ⟨z0, z1, z2⟩ := hw'; go_simp) ⟨c0, g0, g1⟩ ?_
                    refine goes_takeE (i := 15) (E := [16, 17, 18, 19, 20, 21]) (v := .pointer (some ⟨b, o + j * 4, none⟩)) rfl (by kernel_rfl) rfl (fun _ _ _ h => h) (by intro w' hw'; obtain ⟨z0, z1, z2⟩ := hw'; go_simp) ⟨c0, g0, g1⟩ ?_
                    refine goes_takeE (i := 16) (E := [17, 18, 19, 20, 21]) (v := .pointer (some ⟨b, o + j * 4 + 1, none⟩)) rfl (by kernel_rfl) rfl (fun _ _ _ h => h) (by intro w' hw'; obtain ⟨z0, z1, z2⟩ := hw'; go_simp) ⟨c0, g0, g1⟩ ?_
                    refine goes_takeE (i := 17) (E := [18, 19, 20, 21]) (v := .int .i64 yk) rfl (by kernel_rfl) rfl (fun _ _ _ h => h) (by intro w' hw'; obtain ⟨z0, z1, z2⟩ := hw'; go_simp) ⟨c0, g0, g1⟩ ?_
                    refine goes_takeE (i := 18) (E := [19, 20, 21]) (v := .agg #[.string p, .int .i64 (wv + yn - cc), .int .i64 xd, .int .i64 yd, .int .i64 yk]) rfl (by kernel_rfl) rfl (fun _ _ _ h => h) (by intro w' hw'; obtain ⟨z0, z1, z2⟩ := hw'; go_simp) ⟨c0, g0, g1⟩ ?_
                    refine goes_call (i := 19) rfl (by kernel_rfl) ?_
                    go_wp2
                    refine behind_ok ⟨HS1.out _ (by exact (by repeat (first | with_reducible exact Below.refl _ _ | with_reducible assumption | with_reducible refine Below.drew ?_ | with_reducible refine Below.drewN ?_ _ | with_reducible refine Below.alloc2 ?_ _ | with_reducible refine Below.alloc ?_ (by first | omega | (simp <;> omega)) _ | with_reducible refine Below.setCell ?_ (by first | omega | (simp <;> omega)) _ | with_reducible refine Below.step2 (by with_reducible assumption) ?_ | with_reducible refine Below.step (by with_reducible assumption) ?_ (by first | omega | (simp <;> omega))))), ?_⟩
                    refine goes_last (i := 20) rfl (by kernel_rfl) (by kernel_rfl) ?_
                    refine Two.app_went (base := w.heap.size) (W := Os2) (H := []) (vh := .slice none 0 0) ?_ rfl _ _ rfl rfl ⟨p, wv + yn - cc, xd, yd, yk⟩ _ rfl ?_ HOL.out ?_ ?_
                    · exact HT1.out.step (by exact (by repeat (first | with_reducible exact Below.refl _ _ | with_reducible assumption | with_reducible refine Below.drew ?_ | with_reducible refine Below.drewN ?_ _ | with_reducible refine Below.alloc2 ?_ _ | with_reducible refine Below.alloc ?_ (by first | omega | (simp <;> omega)) _ | with_reducible refine Below.setCell ?_ (by first | omega | (simp <;> omega)) _ | with_reducible refine Below.step2 (by with_reducible assumption) ?_ | with_reducible refine Below.step (by with_reducible assumption) ?_ (by first | omega | (simp <;> omega)))))
                    · show Bk _ _ _ #[.string p, .int .i64 (wv + yn - cc), .int .i64 xd, .int .i64 yd, .int .i64 yk]
                      exact (by repeat (first | with_reducible assumption | with_reducible exact Bk.at_ (by first | (simp; done) | omega) | with_reducible refine Bk.alloc ?_ _ | with_reducible refine Bk.drew ?_ | with_reducible refine Bk.drewN ?_ _ | with_reducible refine Bk.step (by with_reducible assumption) ?_ (by first | omega | (simp <;> omega))))
                    · simp; omega
                    intro v2 w2 ht2 hg2 _
                    have HT2 := Lib.hid ht2
                    have HB2 : Hid (Below w.heap.size w w2) := Lib.hid (by
                      have hb0 := HB1.out
                      exact Below.grown_ (D := w.heap.size) (by exact (by repeat (first | with_reducible exact Below.refl _ _ | with_reducible assumption | with_reducible refine Below.drew ?_ | with_reducible refine Below.drewN ?_ _ | with_reducible refine Below.alloc2 ?_ _ | with_reducible refine Below.alloc ?_ (by first | omega | (simp <;> omega)) _ | with_reducible refine Below.setCell ?_ (by first | omega | (simp <;> omega)) _ | with_reducible refine Below.step2 (by with_reducible assumption) ?_ | with_reducible refine Below.step (by with_reducible assumption) ?_ (by first | omega | (simp <;> omega))))) hg2 (by simp; omega) (fun q hq => (HT1.out.own.lt q hq).1))
                    have ow2 := HB2.out.size
                    obtain ⟨b3, o3, y3, e3, -, hy3, -, -, -, t3⟩ := (H.out _ HB2.out).mv hj
                    injection e3 with e3
                    injection e3 with e3 e4
                    subst e3; subst e4
                    obtain rfl : y3 = ⟨yd, yk, yp, yn⟩ := by rw [HY.out] at hy3; exact (Option.some.inj hy3).symm
                    dsimp only at t3
                    clear ht2 hg2 hy3
                    go_wp2
                    refine behind_ok ?_
                    refine goes_last (i := 21) rfl (by kernel_rfl) (by kernel_rfl) ?_
                    go_wp2
                    refine behind_ok (goes_done (by kernel_rfl) ?_)
                    go_wp2
                    refine ⟨⟨wv + yn, j + 1, Os2 ++ [⟨p, wv + yn - cc, xd, yd, yk⟩], by omega, rfl, by go_num, Lib.hid ?_, Lib.hid (by omega), HT2.out, HB2.out⟩, by simp [intOf]; omega⟩
                    rw [← HN.out]
                    simp
                    )
                  · rw [if_neg hp] at HN0
                    have HN := Lib.hid HN0
                    clear HN0 eX
                    go_wp2
                    go_roundw
                    case rel => exact ⟨wv + yn, j + 1, Os2, by omega, by go_num, by go_num, Lib.hid (by rw [← HN.out]; simp), Lib.hid (by omega), HT1.out, HB1.out⟩
                    case measure => simp [intOf]; omega
            · rw [scan_no (fun q => hgo ⟨HU.out ▸ q.1, q.2⟩)] at HQ4
              have HQ5 := Lib.hid HQ4
              cases u
              · clear hgo HQ4
                go_wp2
                go_roundw
                case rel => exact ⟨wv, j + 1, Os2, by omega, rfl, by go_num, HQ5, Lib.hid (by omega), HT1.out, HB1.out⟩
                case measure => simp [intOf]; omega
              · have t0 : (yk == 0) = true := by
                  have : yk = 0 := Classical.byContradiction fun q => hgo ⟨rfl, q⟩
                  simpa using this
                clear hgo HQ4
                go_wp2
                go_roundw
                case rel => exact ⟨wv, j + 1, Os2, by omega, rfl, by go_num, HQ5, Lib.hid (by omega), HT1.out, HB1.out⟩
                case measure => simp [intOf]; omega
          · have HQ4 := HQ3.out
            rw [List.drop_eq_nil_of_le (by rw [HLEN.out]; omega), scan] at HQ4
            have HN1 := Lib.hid HQ4
            clear HQ4 hb1 ht1
            by_cases m2 : cc < wv
            · have HM := Lib.hid trivial
              have eX : cc + xn - max cc wv = cc + xn - wv := by omega
              have hw3 : IntKind.i64.wrap (cc + xn - wv) = cc + xn - wv := IntWalk.i64_in _ (by omega)
              have HN0 := HN1.out
              rw [eX] at HN0
              by_cases hp : 0 < cc + xn - wv
              · rw [if_pos hp] at HN0
                have HN := Lib.hid HN0
                clear HN0 eX
                go_wp2_with (at_builtin; go_loud (refine Two.app_went (base := w.heap.size) (W := Os2) (H := []) (vh := .slice none 0 0) ?_ rfl _ _ rfl rfl ⟨p, cc + xn - wv, xd, -1, -1⟩ _ rfl ?_ HOL.out ?_ ?_; (exact HT1.out.step (by exact (by repeat (first | with_reducible exact Below.refl _ _ | with_reducible assumption | with_reducible refine Below.drew ?_ | with_reducible refine Below.drewN ?_ _ | with_reducible refine Below.alloc2 ?_ _ | with_reducible refine Below.alloc ?_ (by first | omega | (simp <;> omega)) _ | with_reducible refine Below.setCell ?_ (by first | omega | (simp <;> omega)) _ | with_reducible refine Below.step2 (by with_reducible assumption) ?_ | with_reducible refine Below.step (by with_reducible assumption) ?_ (by first | omega | (simp <;> omega)))))); (focus (show Bk _ _ _ #[.string p, .int .i64 (cc + xn - wv), .int .i64 xd, .int .i64 (-1), .int .i64 (-1)]; exact (by repeat (first | with_reducible assumption | with_reducible exact Bk.at_ (by first | (simp; done) | omega) | with_reducible refine Bk.alloc ?_ _ | with_reducible refine Bk.drew ?_ | with_reducible refine Bk.drewN ?_ _ | with_reducible refine Bk.step (by with_reducible assumption) ?_ (by first | omega | (simp <;> omega)))))); (focus (have := HB1.out.size; simp; omega)); intro v2 w2 ht2 hg2 _; have HT2 := Lib.hid ht2; have HG2 := Lib.hid hg2; clear ht2 hg2))
                refine ⟨⟨k + 1, cc + xn, Os2 ++ [⟨p, cc + xn - wv, xd, -1, -1⟩], by omega, by go_num, rfl, Lib.hid ?_, Lib.hid (by omega), HT2.out, ?_⟩, by simp [intOf]; omega⟩
                · rw [← HN.out]
                  simp
                · have hb0 := HB1.out
                  exact Below.grown_ (D := w.heap.size) (by exact (by repeat (first | with_reducible exact Below.refl _ _ | with_reducible assumption | with_reducible refine Below.drew ?_ | with_reducible refine Below.drewN ?_ _ | with_reducible refine Below.alloc2 ?_ _ | with_reducible refine Below.alloc ?_ (by first | omega | (simp <;> omega)) _ | with_reducible refine Below.setCell ?_ (by first | omega | (simp <;> omega)) _ | with_reducible refine Below.step2 (by with_reducible assumption) ?_ | with_reducible refine Below.step (by with_reducible assumption) ?_ (by first | omega | (simp <;> omega))))) HG2.out (by simp; omega) (fun q hq => (HT1.out.own.lt q hq).1)
              · rw [if_neg hp] at HN0
                have HN := Lib.hid HN0
                clear HN0 eX
                go_wp2
                refine ⟨⟨k + 1, cc + xn, Os2, by omega, by go_num, rfl, Lib.hid ?_, Lib.hid (by omega), HT1.out, HB1.out⟩, by simp [intOf]; omega⟩
                rw [← HN.out]
                (try simp)
            · have HM := Lib.hid trivial
              have eX : cc + xn - max cc wv = cc + xn - cc := by omega
              have hw3 : IntKind.i64.wrap (cc + xn - cc) = cc + xn - cc := IntWalk.i64_in _ (by omega)
              have HN0 := HN1.out
              rw [eX] at HN0
              by_cases hp : 0 < cc + xn - cc
              · rw [if_pos hp] at HN0
                have HN := Lib.hid HN0
                clear HN0 eX
                go_wp2_with (at_builtin; go_loud (refine Two.app_went (base := w.heap.size) (W := Os2) (H := []) (vh := .slice none 0 0) ?_ rfl _ _ rfl rfl ⟨p, cc + xn - cc, xd, -1, -1⟩ _ rfl ?_ HOL.out ?_ ?_; (exact HT1.out.step (by exact (by repeat (first | with_reducible exact Below.refl _ _ | with_reducible assumption | with_reducible refine Below.drew ?_ | with_reducible refine Below.drewN ?_ _ | with_reducible refine Below.alloc2 ?_ _ | with_reducible refine Below.alloc ?_ (by first | omega | (simp <;> omega)) _ | with_reducible refine Below.setCell ?_ (by first | omega | (simp <;> omega)) _ | with_reducible refine Below.step2 (by with_reducible assumption) ?_ | with_reducible refine Below.step (by with_reducible assumption) ?_ (by first | omega | (simp <;> omega)))))); (focus (show Bk _ _ _ #[.string p, .int .i64 (cc + xn - cc), .int .i64 xd, .int .i64 (-1), .int .i64 (-1)]; exact (by repeat (first | with_reducible assumption | with_reducible exact Bk.at_ (by first | (simp; done) | omega) | with_reducible refine Bk.alloc ?_ _ | with_reducible refine Bk.drew ?_ | with_reducible refine Bk.drewN ?_ _ | with_reducible refine Bk.step (by with_reducible assumption) ?_ (by first | omega | (simp <;> omega)))))); (focus (have := HB1.out.size; simp; omega)); intro v2 w2 ht2 hg2 _; have HT2 := Lib.hid ht2; have HG2 := Lib.hid hg2; clear ht2 hg2))
                refine ⟨⟨k + 1, cc + xn, Os2 ++ [⟨p, cc + xn - cc, xd, -1, -1⟩], by omega, by go_num, rfl, Lib.hid ?_, Lib.hid (by omega), HT2.out, ?_⟩, by simp [intOf]; omega⟩
                · rw [← HN.out]
                  simp
                · have hb0 := HB1.out
                  exact Below.grown_ (D := w.heap.size) (by exact (by repeat (first | with_reducible exact Below.refl _ _ | with_reducible assumption | with_reducible refine Below.drew ?_ | with_reducible refine Below.drewN ?_ _ | with_reducible refine Below.alloc2 ?_ _ | with_reducible refine Below.alloc ?_ (by first | omega | (simp <;> omega)) _ | with_reducible refine Below.setCell ?_ (by first | omega | (simp <;> omega)) _ | with_reducible refine Below.step2 (by with_reducible assumption) ?_ | with_reducible refine Below.step (by with_reducible assumption) ?_ (by first | omega | (simp <;> omega))))) HG2.out (by simp; omega) (fun q hq => (HT1.out.own.lt q hq).1)
              · exfalso
                omega
      · rw [if_neg (fun q => hyes ⟨HV.out ▸ q.1, q.2⟩)] at HQ1
        have HQ2 := Lib.hid HQ1
        cases v
        · clear hyes HQ1
          go_wp2
          go_roundw
          case rel => exact ⟨k + 1, cc, Os, by omega, by go_num, rfl, HQ2, Lib.hid (by omega), HT.out, HB.out⟩
          case measure => simp [intOf]; omega
        · have d0 : (xk != 0) = true := by
            have : xk ≠ 0 := fun q => hyes ⟨rfl, q⟩
            simpa using this
          clear hyes HQ1
          go_wp2
          go_roundw
          case rel => exact ⟨k + 1, cc, Os, by omega, by go_num, rfl, HQ2, Lib.hid (by omega), HT.out, HB.out⟩
          case measure => simp [intOf]; omega
    · go_wp2
      go_ret
      have e := HQ.out
      rw [List.drop_eq_nil_of_le (by rw [HLEN.out]; omega), refL, List.append_nil] at e
      exact ⟨HB.out, _, rfl, by rw [← e]; exact HT.out.own⟩

end Go.Proofs.Ytbeijeblbchglaa
