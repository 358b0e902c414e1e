/- Chapter 9, walks: lotsOf. -/
import Derived.Test.YtbeijeblbchglaaTwoW9
import Derived.Test.YtbeijeblbchglaaLine
import Derived.Test.YtbeijeblbchglaaCounts9
namespace Go.Proofs.Ytbeijeblbchglaa
open Go.RowKit Go.WideShapes Go.Deep

theorem Two.first_at {w : World} {base : Nat} {W : List Lt} {x : Lt} {xs : List Lt} {vw : Value} {g o cap : Nat} (h : Two w base W (x :: xs) vw (.slice (some ⟨g, o, none⟩) (xs.length + 1) cap)) :
    w.cell? ⟨g, o + 1, none⟩ = some (.int .i64 x.n) ∧ w.frozen? ⟨g, o + 1, none⟩ = false ∧ g < w.heap.size := by
  obtain ⟨g', o', cap', e, -, -, -, h1, -, ⟨-, h2, -⟩, h3⟩ := h.first
  injection e with e1 e2 e3
  injection e1 with e1
  injection e1 with e1 e4
  subst e1; subst e4
  exact ⟨h2, h3, h1⟩
theorem nsum_pos {p : ByteArray} : ∀ {l : List Lt}, (∀ x ∈ l, lies p x) → 0 ≤ nsum l
  | [], _ => by simp [nsum]
  | y :: ys, h => by
    have := (h y (List.mem_cons_self ..)).1
    have := nsum_pos fun x hx => h x (List.mem_cons_of_mem _ hx)
    rw [nsum_cons]
    omega
set_option maxRecDepth 100000 in
set_option maxHeartbeats 4000000 in
theorem lotsOf_any (p : ByteArray) (A : Option Addr) (n c : Nat) (l : List Mv) (w : World) (h : Rws Mv.cs 4 w w.heap.size A n c l) (hst : stOk p l) (hok : l.all okM = true) (hn : n ≤ 300) :
    Calls Try.prog 60 #[.string p, .slice A n c] w fun e w' => Below w.heap.size w w' ∧ ∃ v, e = .returned v ∧ w'.ownsRow w.heap.size 54 5 v (lotsP p l).length ((lotsP p l).flatMap Lt.cs) := by
  have hcap := h.cap
  have hmax := h.max
  have HLEN := Lib.hid h.len
  have HST := Lib.hid hst
  have HOK := Lib.hid hok
  have H : Hid (∀ w', Below w.heap.size w w' → Rws Mv.cs 4 w' w.heap.size A n c l) := fun w' hb => h.below hb (Nat.le_refl _) (Nat.le_refl _)
  clear h hst hok
  go_enter Try.func60, Try.ntmps60
  go_wp2
  go_loopw [5, 6, 8, 9, 10, 11, 14] (fun vw vh _ _ _ _ i wr => ∃ (k : Nat) (W HH : List Lt), k ≤ n ∧ i = .int .i64 k ∧ Hid (runM p (l.take k) = (W, HH)) ∧ Two wr w.heap.size W HH vw vh ∧ Below w.heap.size w wr) (fun _ _ _ _ _ _ i _ => n - (intOf i).toNat)
  case atStart => exact ⟨0, [], [], Nat.zero_le _, rfl, Lib.hid rfl, Two.nil_ _ _, (by repeat (first | with_reducible exact Below.refl _ _ | with_reducible assumption | with_reducible refine Below.drew ?_ | with_reducible refine Below.drewN ?_ _ | with_reducible refine Below.alloc2 ?_ _ | with_reducible refine Below.alloc ?_ (by first | omega | (simp <;> omega)) _ | with_reducible refine Below.setCell ?_ (by first | omega | (simp <;> omega)) _ | with_reducible refine Below.step2 (by with_reducible assumption) ?_ | with_reducible refine Below.step (by with_reducible assumption) ?_ (by first | omega | (simp <;> omega))))⟩
  case round =>
    obtain ⟨k, W, HH, hk, rfl, HR, ht, hb⟩ := hrel
    have HB := Lib.hid hb
    have HT := Lib.hid ht
    have ow := hb.size
    have HL : Hid (W.length + HH.length ≤ k) := Lib.hid (by
      have := runM_len p l k (by rw [HLEN.out]; exact hk)
      rwa [HR.out] at this)
    have HSM : Hid (nsum HH = stock (l.take k) p) := Lib.hid (by
      have := runM_sum HST.out k (by rw [HLEN.out]; exact hk)
      rwa [HR.out] at this)
    have HLI : Hid (∀ x ∈ HH, lies p x) := Lib.hid (by
      have := runM_lies HST.out k (by rw [HLEN.out]; exact hk)
      rwa [HR.out] at this)
    by_cases hlt : k < n
    · obtain ⟨b, o, ⟨xd, xk, xp, xn⟩, rfl, hbb, hx, c0, c1, c2, c3⟩ := (H.out _ hb).mv hlt
      dsimp only at c0 c1 c2 c3
      have hokx := List.all_eq_true.1 HOK.out _ (List.mem_of_getElem? hx)
      unfold okM at hokx
      simp only [Bool.and_eq_true] at hokx
      have hk2 := inR_iff.1 hokx.1
      have hn2 := inR_iff.1 hokx.2
      (try dsimp only at hk2); (try dsimp only at hn2)
      have HSTEP := Lib.hid (runM_step (p := p) hx)
      have HX := Lib.hid hx
      have ob : b < wr.heap.size := by omega
      obtain ⟨v, hv⟩ : ∃ v, (xp.toList == p.toList) = v := ⟨_, rfl⟩
      have HV : Hid (eqS xp p = v) := Lib.hid hv
      clear hx hb hokx ht
      cases v
      · go_wp2
        go_roundw
        case rel =>
          have hb0 := HB.out
          refine ⟨k + 1, W, HH, by omega, by go_num, Lib.hid ?_, HT.out.step (by exact (by repeat (first | with_reducible exact Below.refl _ _ | with_reducible assumption | with_reducible refine Below.drew ?_ | with_reducible refine Below.drewN ?_ _ | with_reducible refine Below.alloc2 ?_ _ | with_reducible refine Below.alloc ?_ (by first | omega | (simp <;> omega)) _ | with_reducible refine Below.setCell ?_ (by first | omega | (simp <;> omega)) _ | with_reducible refine Below.step2 (by with_reducible assumption) ?_ | with_reducible refine Below.step (by with_reducible assumption) ?_ (by first | omega | (simp <;> omega))))), (by repeat (first | with_reducible exact Below.refl _ _ | with_reducible assumption | with_reducible refine Below.drew ?_ | with_reducible refine Below.drewN ?_ _ | with_reducible refine Below.alloc2 ?_ _ | with_reducible refine Below.alloc ?_ (by first | omega | (simp <;> omega)) _ | with_reducible refine Below.setCell ?_ (by first | omega | (simp <;> omega)) _ | with_reducible refine Below.step2 (by with_reducible assumption) ?_ | with_reducible refine Below.step (by with_reducible assumption) ?_ (by first | omega | (simp <;> omega))))⟩
          rw [HSTEP.out, HR.out, stepM, HV.out, if_neg (by simp)]
        case measure => simp [intOf]; omega
      · by_cases h0 : xk = 0
        · have d0 : (xk == 0) = true := by simpa using h0
          have H0 := Lib.hid h0
          clear h0 hk2
          go_wp2_with (at_builtin; go_loud (refine Two.app_hired (base := w.heap.size) (W := W) (H := HH) (vw := u5) ?_ rfl _ _ rfl rfl ⟨p, xn, xd, -1, -1⟩ _ rfl ?_ ?_ ?_ ?_; (exact HT.out.step (by exact (by repeat (first | with_reducible exact Below.refl _ _ | with_reducible assumption | with_reducible refine Below.drew ?_ | with_reducible refine Below.drewN ?_ _ | with_reducible refine Below.alloc2 ?_ _ | with_reducible refine Below.alloc ?_ (by first | omega | (simp <;> omega)) _ | with_reducible refine Below.setCell ?_ (by first | omega | (simp <;> omega)) _ | with_reducible refine Below.step2 (by with_reducible assumption) ?_ | with_reducible refine Below.step (by with_reducible assumption) ?_ (by first | omega | (simp <;> omega)))))); (focus (show Bk _ _ _ #[.string p, .int .i64 xn, .int .i64 xd, .int .i64 (-1), .int .i64 (-1)]; exact (by repeat (first | with_reducible assumption | with_reducible exact Bk.at_ (by first | (simp; done) | omega) | with_reducible refine Bk.alloc ?_ _ | with_reducible refine Bk.drew ?_ | with_reducible refine Bk.drewN ?_ _ | with_reducible refine Bk.step (by with_reducible assumption) ?_ (by first | omega | (simp <;> omega)))))); (focus (have := HL.out; omega)); (focus (have := HB.out.size; simp; omega)); intro v1 w1 ht1 hg1 _; have HT1 := Lib.hid ht1; have HG1 := Lib.hid hg1; clear ht1 hg1))
          go_roundw
          case rel =>
            have hb0 := HB.out
            refine ⟨k + 1, W, HH ++ [⟨p, xn, xd, -1, -1⟩], by omega, by go_num, Lib.hid ?_, HT1.out, ?_⟩
            · rw [HSTEP.out, HR.out, stepM, HV.out, if_pos rfl, if_pos H0.out]
            · exact Below.grown_ (D := w.heap.size) (by exact (by repeat (first | with_reducible exact Below.refl _ _ | with_reducible assumption | with_reducible refine Below.drew ?_ | with_reducible refine Below.drewN ?_ _ | with_reducible refine Below.alloc2 ?_ _ | with_reducible refine Below.alloc ?_ (by first | omega | (simp <;> omega)) _ | with_reducible refine Below.setCell ?_ (by first | omega | (simp <;> omega)) _ | with_reducible refine Below.step2 (by with_reducible assumption) ?_ | with_reducible refine Below.step (by with_reducible assumption) ?_ (by first | omega | (simp <;> omega))))) HG1.out (by simp; omega) (fun q hq => ((ownsOff_lt HT.out.off q hq).1))
          case measure => simp [intOf]; omega
        · have d0 : (xk == 0) = false := by simpa using h0
          have HN0 := Lib.hid h0
          have HSL : Hid (xn ≤ nsum HH ∧ nsum HH ≤ 30000000) := Lib.hid (by
            have h1 := HST.out.2 (k + 1)
            rw [stock_step HX.out, if_pos HV.out, gn, if_neg h0, ← HSM.out] at h1
            have h2 := stock_cnt (l.take k) p (all_take HOK.out k)
            have h3 := cnt_bd (l.take k) 0 p (all_take HOK.out k)
            have h4 := cnt_bd (l.take k) 1 p (all_take HOK.out k)
            have h5 := cnt_bd (l.take k) 2 p (all_take HOK.out k)
            have h6 : (l.take k).length ≤ 300 := by rw [List.length_take, HLEN.out]; omega
            rw [← HSM.out] at h2
            (try dsimp only at h1)
            omega)
          obtain ⟨G1, hG1⟩ : ∃ G, W ++ (goTake xd xk xn HH).1 = G := ⟨_, rfl⟩
          obtain ⟨G2, hG2⟩ : ∃ G, (goTake xd xk xn HH).2 = G := ⟨_, rfl⟩
          have HG : Hid (runM p (l.take (k + 1)) = (G1, G2)) := Lib.hid (by rw [HSTEP.out, HR.out, stepM, HV.out, if_pos rfl, if_neg h0, ← hG1, ← hG2])
          have HGL : Hid (G1.length ≤ 301) := Lib.hid (by
            have := runM_len p l (k + 1) (by rw [HLEN.out]; omega)
            rw [HG.out] at this
            (try dsimp only at this)
            omega)
          have HGG : Hid (W ++ (goTake xd xk xn HH).1 = G1 ∧ (goTake xd xk xn HH).2 = G2) := Lib.hid ⟨hG1, hG2⟩
          have HFW : Hid (∀ q, u5.ownBlock = some q → q < wr.heap.size) := Lib.hid fun q hq => (HT.out.own.lt q hq).2
          have HFH : Hid (∀ q, u6.ownBlock = some q → q < wr.heap.size) := Lib.hid fun q hq => (ownsOff_lt HT.out.off q hq).2
          obtain ⟨wq, rfl⟩ : ∃ x, x = wr := ⟨_, rfl⟩
          clear h0 hG1 hG2
          go_wp2
          go_loopw [5, 6, 9, 10, 11] (fun vw vh lf _ _ wi => ∃ (left : Int) (Wi Hi : List Lt), lf = .int .i64 left ∧ Hid (0 ≤ left ∧ left ≤ nsum Hi ∧ left ≤ 100000 ∧ nsum Hi ≤ 30000000) ∧ Hid (Wi ++ (goTake xd xk left Hi).1 = G1 ∧ (goTake xd xk left Hi).2 = G2) ∧ Hid (∀ x ∈ Hi, lies p x) ∧ Two wi w.heap.size Wi Hi vw vh ∧ Bk wi wq.heap.size 90 #[.int .i64 xd, .int .i64 xk, .string xp, .int .i64 xn] ∧ Hid (∀ q, vw.ownBlock = some q → q ≠ wq.heap.size) ∧ Hid (∀ q, vh.ownBlock = some q → q < wq.heap.size) ∧ Below w.heap.size w wi) (fun _ _ lf _ _ _ => (intOf lf).toNat)
          case atStart =>
            have hb0 := HB.out
            exact ⟨xn, W, HH, rfl, Lib.hid ⟨by omega, HSL.out.1, by omega, HSL.out.2⟩, HGG, HLI, HT.out.step (by exact (by repeat (first | with_reducible exact Below.refl _ _ | with_reducible assumption | with_reducible refine Below.drew ?_ | with_reducible refine Below.drewN ?_ _ | with_reducible refine Below.alloc2 ?_ _ | with_reducible refine Below.alloc ?_ (by first | omega | (simp <;> omega)) _ | with_reducible refine Below.setCell ?_ (by first | omega | (simp <;> omega)) _ | with_reducible refine Below.step2 (by with_reducible assumption) ?_ | with_reducible refine Below.step (by with_reducible assumption) ?_ (by first | omega | (simp <;> omega))))), (by repeat (first | with_reducible assumption | with_reducible exact Bk.at_ (by first | (simp; done) | omega) | with_reducible refine Bk.alloc ?_ _ | with_reducible refine Bk.drew ?_ | with_reducible refine Bk.drewN ?_ _ | with_reducible refine Bk.step (by with_reducible assumption) ?_ (by first | omega | (simp <;> omega)))), Lib.hid (fun q hq => by have := HFW.out q hq; omega), HFH, (by repeat (first | with_reducible exact Below.refl _ _ | with_reducible assumption | with_reducible refine Below.drew ?_ | with_reducible refine Below.drewN ?_ _ | with_reducible refine Below.alloc2 ?_ _ | with_reducible refine Below.alloc ?_ (by first | omega | (simp <;> omega)) _ | with_reducible refine Below.setCell ?_ (by first | omega | (simp <;> omega)) _ | with_reducible refine Below.step2 (by with_reducible assumption) ?_ | with_reducible refine Below.step (by with_reducible assumption) ?_ (by first | omega | (simp <;> omega))))⟩
          case round =>
            obtain ⟨left, Wi, Hi, rfl, HL1, HL2, HL3, ht1, hk1, HF1, HF2, hb1⟩ := hrel
            have HB1 := Lib.hid hb1
            have HT1 := Lib.hid ht1
            have HK1 := Lib.hid hk1
            have ow1 := hb1.size
            have ol1 := hk1.lt
            obtain ⟨q0, q1, q2, q3⟩ := hk1.fourc
            by_cases hl0 : 0 < left
            · have hnil : Hi ≠ [] := fun e => by
                have := HL1.out.2.1
                rw [e] at this
                simp [nsum] at this
                omega
              obtain ⟨⟨yp, yn, yi, yd, yo⟩, xs, rfl⟩ : ∃ x xs, Hi = x :: xs := by
                cases Hi with
                | nil => exact absurd rfl hnil
                | cons x xs => exact ⟨x, xs, rfl⟩
              obtain ⟨g, oo, cap, rfl, hcc, hcm, hgb, hgl, hgw, ⟨e0, e1, e2, e3, e4⟩, fz⟩ := ht1.first
              dsimp only at e0 e1 e2 e3 e4
              have hgx : g < wq.heap.size := HF2.out g rfl
              have hy := HL3.out _ (List.mem_cons_self ..)
              have hyn : 0 < yn := hy.1
              have hys := nsum_pos fun x hx => HL3.out x (List.mem_cons_of_mem _ hx)
              have hL1 := HL1.out
              rw [nsum_cons] at hL1
              (try dsimp only at hL1)
              have HWL : Hid (Wi.length ≤ 1000) := Lib.hid (by
                have := congrArg List.length HL2.out.1
                rw [List.length_append] at this
                have := HGL.out
                omega)
              obtain ep : p = yp := hy.2.1.symm
              subst ep
              have HS1 : Hid (∀ W, Below wr.heap.size wr W → W.cell? ⟨g, oo + 2, none⟩ = some (.int .i64 yi) ∧ W.cell? ⟨wq.heap.size, 0, none⟩ = some (.int .i64 xd) ∧ W.cell? ⟨wq.heap.size, 1, none⟩ = some (.int .i64 xk)) := Lib.hid fun W hW =>
                ⟨(World.cell?_of_block (a := ⟨g, oo + 2, none⟩) (hW.block g hgl)).trans e2, (HK1.out.below hW HK1.out.lt).fourc.1, (HK1.out.below hW HK1.out.lt).fourc.2.1⟩
              clear hk1 hb1 ht1 hnil hy
              by_cases hc : left < yn
              · have d1 : (yn - left == 0) = false := by
                  have : yn - left ≠ 0 := by omega
                  simpa using this
                have hw7 : IntKind.i64.wrap (yn - left) = yn - left := IntWalk.i64_in _ (by omega)
                go_upto_region 12 with fail
                refine region_goes (n := 15) (fun w' => w'.cell? ⟨g, oo + 2, none⟩ = some (.int .i64 yi) ∧ w'.cell? ⟨wq.heap.size, 0, none⟩ = some (.int .i64 xd) ∧ w'.cell? ⟨wq.heap.size, 1, none⟩ = some (.int .i64 xk)) [13, 14] (by kernel_rfl) rfl ?_
                refine goes_takeE (i := 0) (E := [13, 14]) (v := u5) rfl (by kernel_rfl) rfl (fun _ _ _ h => h) (by intro w' hw'; obtain ⟨z0, z1, z2⟩ := hw'; go_simp) ⟨e2, q0, q1⟩ ?_
                refine goes_takeE (i := 1) (E := [11, 12, 13, 14]) (v := .string p) rfl (by kernel_rfl) rfl (fun _ _ _ h => h) (by intro w' hw'; obtain ⟨z0, z1, z2⟩ := hw'; go_simp) ⟨e2, q0, q1⟩ ?_
                refine goes_takeE (i := 2) (E := [11, 12, 13, 14]) (v := .int .i64 left) rfl (by kernel_rfl) rfl (fun _ _ _ h => h) (by intro w' hw'; obtain ⟨z0, z1, z2⟩ := hw'; go_simp) ⟨e2, q0, q1⟩ ?_
                refine goes_takeE (i := 3) (E := [4, 5, 6, 11, 12, 13, 14]) (v := .pointer (some ⟨g, oo, none⟩)) rfl (by kernel_rfl) rfl (fun _ _ _ h => h) (by intro w' hw'; obtain ⟨z0, z1, z2⟩ := hw'; go_simp) ⟨e2, q0, q1⟩ ?_
                refine goes_takeE (i := 4) (E := [5, 6, 11, 12, 13, 14]) (v := .pointer (some ⟨g, oo, none⟩)) rfl (by kernel_rfl) rfl (fun _ _ _ h => h) (by intro w' hw'; obtain ⟨z0, z1, z2⟩ := hw'; go_simp) ⟨e2, q0, q1⟩ ?_
                refine goes_takeE (i := 5) (E := [6, 11, 12, 13, 14]) (v := .pointer (some ⟨g, oo + 2, none⟩)) rfl (by kernel_rfl) rfl (fun _ _ _ h => h) (by intro w' hw'; obtain ⟨z0, z1, z2⟩ := hw'; go_simp) ⟨e2, q0, q1⟩ ?_
                refine goes_takeE (i := 6) (E := [11, 12, 13, 14]) (v := .int .i64 yi) rfl (by kernel_rfl) rfl (fun _ _ _ h => h) (by intro w' hw'; obtain ⟨z0, z1, z2⟩ := hw'; go_simp) ⟨e2, q0, q1⟩ ?_
                refine goes_takeE (i := 7) (E := [8, 11, 12, 13, 14]) (v := .pointer (some ⟨wq.heap.size, 0, none⟩)) rfl (by kernel_rfl) rfl (fun _ _ _ h => h) (by intro w' hw'; obtain ⟨z0, z1, z2⟩ := hw'; go_simp) ⟨e2, q0, q1⟩ ?_
                refine goes_takeE (i := 8) (E := [11, 12, 13, 14]) (v := .int .i64 xd) rfl (by kernel_rfl) rfl (fun _ _ _ h => h) (by intro w' hw'; obtain ⟨z0, z1, z2⟩ := hw'; go_simp) ⟨e2, q0, q1⟩ ?_
                refine goes_takeE (i := 9) (E := [10, 11, 12, 13, 14]) (v := .pointer (some ⟨wq.heap.size, 1, none⟩)) rfl (by kernel_rfl) rfl (fun _ _ _ h => h) (by intro w' hw'; obtain ⟨z0, z1, z2⟩ := hw'; go_simp) ⟨e2, q0, q1⟩ ?_
                refine goes_takeE (i := 10) (E := [11, 12, 13, 14]) (v := .int .i64 xk) rfl (by kernel_rfl) rfl (fun _ _ _ h => h) (by intro w' hw'; obtain ⟨z0, z1, z2⟩ := hw'; go_simp) ⟨e2, q0, q1⟩ ?_
                refine goes_takeE (i := 11) (E := [12, 13, 14]) (v := .agg #[.string p, .int .i64 left, .int .i64 yi, .int .i64 xd, .int .i64 xk]) rfl (by kernel_rfl) rfl (fun _ _ _ h => h) (by intro w' hw'; obtain ⟨z0, z1, z2⟩ := hw'; go_simp) ⟨e2, q0, q1⟩ ?_
                refine goes_call (i := 12) rfl (by kernel_rfl) ?_
                go_wp2
                refine behind_ok ⟨HS1.out _ (by exact (by repeat (first | with_reducible exact Below.refl _ _ | with_reducible assumption | with_reducible refine Below.drew ?_ | with_reducible refine Below.drewN ?_ _ | with_reducible refine Below.alloc2 ?_ _ | with_reducible refine Below.alloc ?_ (by first | omega | (simp <;> omega)) _ | with_reducible refine Below.setCell ?_ (by first | omega | (simp <;> omega)) _ | with_reducible refine Below.step2 (by with_reducible assumption) ?_ | with_reducible refine Below.step (by with_reducible assumption) ?_ (by first | omega | (simp <;> omega))))), ?_⟩
                refine goes_last (i := 13) rfl (by kernel_rfl) (by kernel_rfl) ?_
                refine Two.app_went (base := w.heap.size) (W := Wi) (H := ⟨p, yn, yi, yd, yo⟩ :: xs) (vh := .slice (some ⟨g, oo, none⟩) (xs.length + 1) cap) ?_ rfl _ _ rfl rfl ⟨p, left, yi, xd, xk⟩ _ rfl ?_ HWL.out ?_ ?_
                · exact HT1.out.step (by exact (by repeat (first | with_reducible exact Below.refl _ _ | with_reducible assumption | with_reducible refine Below.drew ?_ | with_reducible refine Below.drewN ?_ _ | with_reducible refine Below.alloc2 ?_ _ | with_reducible refine Below.alloc ?_ (by first | omega | (simp <;> omega)) _ | with_reducible refine Below.setCell ?_ (by first | omega | (simp <;> omega)) _ | with_reducible refine Below.step2 (by with_reducible assumption) ?_ | with_reducible refine Below.step (by with_reducible assumption) ?_ (by first | omega | (simp <;> omega)))))
                · show Bk _ _ _ #[.string p, .int .i64 left, .int .i64 yi, .int .i64 xd, .int .i64 xk]
                  exact (by repeat (first | with_reducible assumption | with_reducible exact Bk.at_ (by first | (simp; done) | omega) | with_reducible refine Bk.alloc ?_ _ | with_reducible refine Bk.drew ?_ | with_reducible refine Bk.drewN ?_ _ | with_reducible refine Bk.step (by with_reducible assumption) ?_ (by first | omega | (simp <;> omega))))
                · simp; omega
                intro v2 w2 ht2 hg2 ha2
                obtain ⟨f1, f2, f3⟩ := ht2.first_at
                (try dsimp only at f1)
                have HT2 := Lib.hid ht2
                have HK2 : Hid (Bk w2 wq.heap.size 90 #[.int .i64 xd, .int .i64 xk, .string xp, .int .i64 xn]) := Lib.hid ((hg2.block _ (by simp; omega) (fun e => HF1.out _ e.symm rfl)).trans (Bk.alloc HK1.out _))
                have HF3 : Hid (∀ q, v2.ownBlock = some q → q ≠ wq.heap.size) := Lib.hid fun q hq => by
                  rcases ha2 with e | e
                  · exact HF1.out q (e ▸ hq)
                  · rw [e] at hq
                    cases hq
                    simp
                    omega
                have HB2 : Hid (Below w.heap.size w w2) := Lib.hid (by
                  have hb0 := HB1.out
                  exact Below.grown_ (D := w.heap.size) (by exact (by repeat (first | with_reducible exact Below.refl _ _ | with_reducible assumption | with_reducible refine Below.drew ?_ | with_reducible refine Below.drewN ?_ _ | with_reducible refine Below.alloc2 ?_ _ | with_reducible refine Below.alloc ?_ (by first | omega | (simp <;> omega)) _ | with_reducible refine Below.setCell ?_ (by first | omega | (simp <;> omega)) _ | with_reducible refine Below.step2 (by with_reducible assumption) ?_ | with_reducible refine Below.step (by with_reducible assumption) ?_ (by first | omega | (simp <;> omega))))) hg2 (by simp; omega) (fun q hq => (HT1.out.own.lt q hq).1))
                have ow2 := HB2.out.size
                have ol2 := HK2.out.lt
                clear ht2 hg2 ha2
                go_wp2
                refine behind_ok ?_
                refine goes_last (i := 14) rfl (by kernel_rfl) (by kernel_rfl) ?_
                go_wp2
                refine behind_ok (goes_done (by kernel_rfl) ?_)
                go_wp2
                have e9 := HL2.out
                rw [goTake, if_neg (show ¬ left ≤ 0 by omega), if_pos hc] at e9
                dsimp only at e9
                refine ⟨⟨0, Wi ++ [⟨p, left, yi, xd, xk⟩], ⟨p, yn - left, yi, yd, yo⟩ :: xs, rfl, Lib.hid ?_, Lib.hid ?_, Lib.hid ?_, HT2.out.fewer _, Bk.other HK2.out (show wq.heap.size ≠ g by omega) _, HF3, HF2, HB2.out.setCell hgb _⟩, ?_⟩
                · rw [nsum_cons]
                  dsimp only
                  omega
                · rw [take_zero]
                  exact ⟨by rw [List.append_nil]; exact e9.1, e9.2⟩
                · intro x hx
                  rcases List.mem_cons.1 hx with rfl | hx
                  · exact ⟨by dsimp only; omega, rfl, (HL3.out _ (List.mem_cons_self ..)).2.2⟩
                  · exact HL3.out x (List.mem_cons_of_mem _ hx)
                · simp [intOf]
                  omega
              · have hz9 : left - yn ≤ nsum xs ∧ nsum xs ≤ 30000000 ∧ 0 ≤ left - yn ∧ left - yn ≤ 100000 := by omega
                have e9 := HL2.out
                rw [goTake, if_neg (show ¬ left ≤ 0 by omega), if_neg hc] at e9
                dsimp only at e9
                have HE9 := Lib.hid e9
                have HZ9 := Lib.hid hz9
                clear e9 hz9
                by_cases heq : yn = left
                · subst heq
                  have hw7 : IntKind.i64.wrap (yn - yn) = yn - yn := IntWalk.i64_in _ (by omega)
                  clear hc
                  go_upto_region 12 with fail
                  refine region_goes (n := 15) (fun w' => w'.cell? ⟨g, oo + 2, none⟩ = some (.int .i64 yi) ∧ w'.cell? ⟨wq.heap.size, 0, none⟩ = some (.int .i64 xd) ∧ w'.cell? ⟨wq.heap.size, 1, none⟩ = some (.int .i64 xk)) [13, 14] (by kernel_rfl) rfl ?_
                  refine goes_takeE (i := 0) (E := [13, 14]) (v := u5) rfl (by kernel_rfl) rfl (fun _ _ _ h => h) (by intro w' hw'; obtain ⟨z0, z1, z2⟩ := hw'; go_simp) ⟨e2, q0, q1⟩ ?_
                  refine goes_takeE (i := 1) (E := [11, 12, 13, 14]) (v := .string p) rfl (by kernel_rfl) rfl (fun _ _ _ h => h) (by intro w' hw'; obtain ⟨z0, z1, z2⟩ := hw'; go_simp) ⟨e2, q0, q1⟩ ?_
                  refine goes_takeE (i := 2) (E := [11, 12, 13, 14]) (v := .int .i64 yn) rfl (by kernel_rfl) rfl (fun _ _ _ h => h) (by intro w' hw'; obtain ⟨z0, z1, z2⟩ := hw'; go_simp) ⟨e2, q0, q1⟩ ?_
                  refine goes_takeE (i := 3) (E := [4, 5, 6, 11, 12, 13, 14]) (v := .pointer (some ⟨g, oo, none⟩)) rfl (by kernel_rfl) rfl (fun _ _ _ h => h) (by intro w' hw'; obtain ⟨z0, z1, z2⟩ := hw'; go_simp) ⟨e2, q0, q1⟩ ?_
                  refine goes_takeE (i := 4) (E := [5, 6, 11, 12, 13, 14]) (v := .pointer (some ⟨g, oo, none⟩)) rfl (by kernel_rfl) rfl (fun _ _ _ h => h) (by intro w' hw'; obtain ⟨z0, z1, z2⟩ := hw'; go_simp) ⟨e2, q0, q1⟩ ?_
                  refine goes_takeE (i := 5) (E := [6, 11, 12, 13, 14]) (v := .pointer (some ⟨g, oo + 2, none⟩)) rfl (by kernel_rfl) rfl (fun _ _ _ h => h) (by intro w' hw'; obtain ⟨z0, z1, z2⟩ := hw'; go_simp) ⟨e2, q0, q1⟩ ?_
                  refine goes_takeE (i := 6) (E := [11, 12, 13, 14]) (v := .int .i64 yi) rfl (by kernel_rfl) rfl (fun _ _ _ h => h) (by intro w' hw'; obtain ⟨z0, z1, z2⟩ := hw'; go_simp) ⟨e2, q0, q1⟩ ?_
                  refine goes_takeE (i := 7) (E := [8, 11, 12, 13, 14]) (v := .pointer (some ⟨wq.heap.size, 0, none⟩)) rfl (by kernel_rfl) rfl (fun _ _ _ h => h) (by intro w' hw'; obtain ⟨z0, z1, z2⟩ := hw'; go_simp) ⟨e2, q0, q1⟩ ?_
                  refine goes_takeE (i := 8) (E := [11, 12, 13, 14]) (v := .int .i64 xd) rfl (by kernel_rfl) rfl (fun _ _ _ h => h) (by intro w' hw'; obtain ⟨z0, z1, z2⟩ := hw'; go_simp) ⟨e2, q0, q1⟩ ?_
                  refine goes_takeE (i := 9) (E := [10, 11, 12, 13, 14]) (v := .pointer (some ⟨wq.heap.size, 1, none⟩)) rfl (by kernel_rfl) rfl (fun _ _ _ h => h) (by intro w' hw'; obtain ⟨z0, z1, z2⟩ := hw'; go_simp) ⟨e2, q0, q1⟩ ?_
                  refine goes_takeE (i := 10) (E := [11, 12, 13, 14]) (v := .int .i64 xk) rfl (by kernel_rfl) rfl (fun _ _ _ h => h) (by intro w' hw'; obtain ⟨z0, z1, z2⟩ := hw'; go_simp) ⟨e2, q0, q1⟩ ?_
                  refine goes_takeE (i := 11) (E := [12, 13, 14]) (v := .agg #[.string p, .int .i64 yn, .int .i64 yi, .int .i64 xd, .int .i64 xk]) rfl (by kernel_rfl) rfl (fun _ _ _ h => h) (by intro w' hw'; obtain ⟨z0, z1, z2⟩ := hw'; go_simp) ⟨e2, q0, q1⟩ ?_
                  refine goes_call (i := 12) rfl (by kernel_rfl) ?_
                  go_wp2
                  refine behind_ok ⟨HS1.out _ (by exact (by repeat (first | with_reducible exact Below.refl _ _ | with_reducible assumption | with_reducible refine Below.drew ?_ | with_reducible refine Below.drewN ?_ _ | with_reducible refine Below.alloc2 ?_ _ | with_reducible refine Below.alloc ?_ (by first | omega | (simp <;> omega)) _ | with_reducible refine Below.setCell ?_ (by first | omega | (simp <;> omega)) _ | with_reducible refine Below.step2 (by with_reducible assumption) ?_ | with_reducible refine Below.step (by with_reducible assumption) ?_ (by first | omega | (simp <;> omega))))), ?_⟩
                  refine goes_last (i := 13) rfl (by kernel_rfl) (by kernel_rfl) ?_
                  refine Two.app_went (base := w.heap.size) (W := Wi) (H := ⟨p, yn, yi, yd, yo⟩ :: xs) (vh := .slice (some ⟨g, oo, none⟩) (xs.length + 1) cap) ?_ rfl _ _ rfl rfl ⟨p, yn, yi, xd, xk⟩ _ rfl ?_ HWL.out ?_ ?_
                  · exact HT1.out.step (by exact (by repeat (first | with_reducible exact Below.refl _ _ | with_reducible assumption | with_reducible refine Below.drew ?_ | with_reducible refine Below.drewN ?_ _ | with_reducible refine Below.alloc2 ?_ _ | with_reducible refine Below.alloc ?_ (by first | omega | (simp <;> omega)) _ | with_reducible refine Below.setCell ?_ (by first | omega | (simp <;> omega)) _ | with_reducible refine Below.step2 (by with_reducible assumption) ?_ | with_reducible refine Below.step (by with_reducible assumption) ?_ (by first | omega | (simp <;> omega)))))
                  · show Bk _ _ _ #[.string p, .int .i64 yn, .int .i64 yi, .int .i64 xd, .int .i64 xk]
                    exact (by repeat (first | with_reducible assumption | with_reducible exact Bk.at_ (by first | (simp; done) | omega) | with_reducible refine Bk.alloc ?_ _ | with_reducible refine Bk.drew ?_ | with_reducible refine Bk.drewN ?_ _ | with_reducible refine Bk.step (by with_reducible assumption) ?_ (by first | omega | (simp <;> omega))))
                  · simp; omega
                  intro v2 w2 ht2 hg2 ha2
                  obtain ⟨f1, f2, f3⟩ := ht2.first_at
                  (try dsimp only at f1)
                  have HT2 := Lib.hid ht2
                  have HK2 : Hid (Bk w2 wq.heap.size 90 #[.int .i64 xd, .int .i64 xk, .string xp, .int .i64 xn]) := Lib.hid ((hg2.block _ (by simp; omega) (fun e => HF1.out _ e.symm rfl)).trans (Bk.alloc HK1.out _))
                  have HF3 : Hid (∀ q, v2.ownBlock = some q → q ≠ wq.heap.size) := Lib.hid fun q hq => by
                    rcases ha2 with e | e
                    · exact HF1.out q (e ▸ hq)
                    · rw [e] at hq
                      cases hq
                      simp
                      omega
                  have HB2 : Hid (Below w.heap.size w w2) := Lib.hid (by
                    have hb0 := HB1.out
                    exact Below.grown_ (D := w.heap.size) (by exact (by repeat (first | with_reducible exact Below.refl _ _ | with_reducible assumption | with_reducible refine Below.drew ?_ | with_reducible refine Below.drewN ?_ _ | with_reducible refine Below.alloc2 ?_ _ | with_reducible refine Below.alloc ?_ (by first | omega | (simp <;> omega)) _ | with_reducible refine Below.setCell ?_ (by first | omega | (simp <;> omega)) _ | with_reducible refine Below.step2 (by with_reducible assumption) ?_ | with_reducible refine Below.step (by with_reducible assumption) ?_ (by first | omega | (simp <;> omega))))) hg2 (by simp; omega) (fun q hq => (HT1.out.own.lt q hq).1))
                  have ow2 := HB2.out.size
                  have ol2 := HK2.out.lt
                  clear ht2 hg2 ha2
                  go_wp2
                  refine behind_ok ?_
                  refine goes_last (i := 14) rfl (by kernel_rfl) (by kernel_rfl) ?_
                  go_wp2
                  refine behind_ok (goes_done (by kernel_rfl) ?_)
                  go_wp2
                  (refine ⟨⟨_, Wi ++ [⟨p, yn, yi, xd, xk⟩], xs, rfl, Lib.hid ?_, Lib.hid ?_, Lib.hid ?_, (HT2.out.fewer _).gone_, Bk.other HK2.out (show wq.heap.size ≠ g by omega) _, HF3, Lib.hid ?_, HB2.out.setCell hgb _⟩, ?_⟩; (focus (have := HZ9.out; omega)); (focus (have := HE9.out; rw [List.append_assoc]; simpa using this)); (focus (exact fun x hx => HL3.out x (List.mem_cons_of_mem _ hx))); (focus (intro q hq; have e3 : some g = some q := (by split at hq <;> exact hq); cases e3; exact hgx)); (simp [intOf]; omega))
                · have hgt : yn < left := by omega
                  have hw7 : IntKind.i64.wrap (left - yn) = left - yn := IntWalk.i64_in _ (by omega)
                  have hle : ¬ left ≤ yn := by omega
                  have dle : decide (left ≤ yn) = false := decide_eq_false hle
                  clear hc heq
                  go_upto_region 12 with fail
                  refine region_goes (n := 15) (fun w' => w'.cell? ⟨g, oo + 2, none⟩ = some (.int .i64 yi) ∧ w'.cell? ⟨wq.heap.size, 0, none⟩ = some (.int .i64 xd) ∧ w'.cell? ⟨wq.heap.size, 1, none⟩ = some (.int .i64 xk)) [13, 14] (by kernel_rfl) rfl ?_
                  refine goes_takeE (i := 0) (E := [13, 14]) (v := u5) rfl (by kernel_rfl) rfl (fun _ _ _ h => h) (by intro w' hw'; obtain ⟨z0, z1, z2⟩ := hw'; go_simp) ⟨e2, q0, q1⟩ ?_
                  refine goes_takeE (i := 1) (E := [11, 12, 13, 14]) (v := .string p) rfl (by kernel_rfl) rfl (fun _ _ _ h => h) (by intro w' hw'; obtain ⟨z0, z1, z2⟩ := hw'; go_simp) ⟨e2, q0, q1⟩ ?_
                  refine goes_takeE (i := 2) (E := [11, 12, 13, 14]) (v := .int .i64 yn) rfl (by kernel_rfl) rfl (fun _ _ _ h => h) (by intro w' hw'; obtain ⟨z0, z1, z2⟩ := hw'; go_simp) ⟨e2, q0, q1⟩ ?_
                  refine goes_takeE (i := 3) (E := [4, 5, 6, 11, 12, 13, 14]) (v := .pointer (some ⟨g, oo, none⟩)) rfl (by kernel_rfl) rfl (fun _ _ _ h => h) (by intro w' hw'; obtain ⟨z0, z1, z2⟩ := hw'; go_simp) ⟨e2, q0, q1⟩ ?_
                  refine goes_takeE (i := 4) (E := [5, 6, 11, 12, 13, 14]) (v := .pointer (some ⟨g, oo, none⟩)) rfl (by kernel_rfl) rfl (fun _ _ _ h => h) (by intro w' hw'; obtain ⟨z0, z1, z2⟩ := hw'; go_simp) ⟨e2, q0, q1⟩ ?_
                  refine goes_takeE (i := 5) (E := [6, 11, 12, 13, 14]) (v := .pointer (some ⟨g, oo + 2, none⟩)) rfl (by kernel_rfl) rfl (fun _ _ _ h => h) (by intro w' hw'; obtain ⟨z0, z1, z2⟩ := hw'; go_simp) ⟨e2, q0, q1⟩ ?_
                  refine goes_takeE (i := 6) (E := [11, 12, 13, 14]) (v := .int .i64 yi) rfl (by kernel_rfl) rfl (fun _ _ _ h => h) (by intro w' hw'; obtain ⟨z0, z1, z2⟩ := hw'; go_simp) ⟨e2, q0, q1⟩ ?_
                  refine goes_takeE (i := 7) (E := [8, 11, 12, 13, 14]) (v := .pointer (some ⟨wq.heap.size, 0, none⟩)) rfl (by kernel_rfl) rfl (fun _ _ _ h => h) (by intro w' hw'; obtain ⟨z0, z1, z2⟩ := hw'; go_simp) ⟨e2, q0, q1⟩ ?_
                  refine goes_takeE (i := 8) (E := [11, 12, 13, 14]) (v := .int .i64 xd) rfl (by kernel_rfl) rfl (fun _ _ _ h => h) (by intro w' hw'; obtain ⟨z0, z1, z2⟩ := hw'; go_simp) ⟨e2, q0, q1⟩ ?_
                  refine goes_takeE (i := 9) (E := [10, 11, 12, 13, 14]) (v := .pointer (some ⟨wq.heap.size, 1, none⟩)) rfl (by kernel_rfl) rfl (fun _ _ _ h => h) (by intro w' hw'; obtain ⟨z0, z1, z2⟩ := hw'; go_simp) ⟨e2, q0, q1⟩ ?_
                  refine goes_takeE (i := 10) (E := [11, 12, 13, 14]) (v := .int .i64 xk) rfl (by kernel_rfl) rfl (fun _ _ _ h => h) (by intro w' hw'; obtain ⟨z0, z1, z2⟩ := hw'; go_simp) ⟨e2, q0, q1⟩ ?_
                  refine goes_takeE (i := 11) (E := [12, 13, 14]) (v := .agg #[.string p, .int .i64 yn, .int .i64 yi, .int .i64 xd, .int .i64 xk]) rfl (by kernel_rfl) rfl (fun _ _ _ h => h) (by intro w' hw'; obtain ⟨z0, z1, z2⟩ := hw'; go_simp) ⟨e2, q0, q1⟩ ?_
                  refine goes_call (i := 12) rfl (by kernel_rfl) ?_
                  go_wp2
                  refine behind_ok ⟨HS1.out _ (by exact (by repeat (first | with_reducible exact Below.refl _ _ | with_reducible assumption | with_reducible refine Below.drew ?_ | with_reducible refine Below.drewN ?_ _ | with_reducible refine Below.alloc2 ?_ _ | with_reducible refine Below.alloc ?_ (by first | omega | (simp <;> omega)) _ | with_reducible refine Below.setCell ?_ (by first | omega | (simp <;> omega)) _ | with_reducible refine Below.step2 (by with_reducible assumption) ?_ | with_reducible refine Below.step (by with_reducible assumption) ?_ (by first | omega | (simp <;> omega))))), ?_⟩
                  refine goes_last (i := 13) rfl (by kernel_rfl) (by kernel_rfl) ?_
                  refine Two.app_went (base := w.heap.size) (W := Wi) (H := ⟨p, yn, yi, yd, yo⟩ :: xs) (vh := .slice (some ⟨g, oo, none⟩) (xs.length + 1) cap) ?_ rfl _ _ rfl rfl ⟨p, yn, yi, xd, xk⟩ _ rfl ?_ HWL.out ?_ ?_
                  · exact HT1.out.step (by exact (by repeat (first | with_reducible exact Below.refl _ _ | with_reducible assumption | with_reducible refine Below.drew ?_ | with_reducible refine Below.drewN ?_ _ | with_reducible refine Below.alloc2 ?_ _ | with_reducible refine Below.alloc ?_ (by first | omega | (simp <;> omega)) _ | with_reducible refine Below.setCell ?_ (by first | omega | (simp <;> omega)) _ | with_reducible refine Below.step2 (by with_reducible assumption) ?_ | with_reducible refine Below.step (by with_reducible assumption) ?_ (by first | omega | (simp <;> omega)))))
                  · show Bk _ _ _ #[.string p, .int .i64 yn, .int .i64 yi, .int .i64 xd, .int .i64 xk]
                    exact (by repeat (first | with_reducible assumption | with_reducible exact Bk.at_ (by first | (simp; done) | omega) | with_reducible refine Bk.alloc ?_ _ | with_reducible refine Bk.drew ?_ | with_reducible refine Bk.drewN ?_ _ | with_reducible refine Bk.step (by with_reducible assumption) ?_ (by first | omega | (simp <;> omega))))
                  · simp; omega
                  intro v2 w2 ht2 hg2 ha2
                  obtain ⟨f1, f2, f3⟩ := ht2.first_at
                  (try dsimp only at f1)
                  have HT2 := Lib.hid ht2
                  have HK2 : Hid (Bk w2 wq.heap.size 90 #[.int .i64 xd, .int .i64 xk, .string xp, .int .i64 xn]) := Lib.hid ((hg2.block _ (by simp; omega) (fun e => HF1.out _ e.symm rfl)).trans (Bk.alloc HK1.out _))
                  have HF3 : Hid (∀ q, v2.ownBlock = some q → q ≠ wq.heap.size) := Lib.hid fun q hq => by
                    rcases ha2 with e | e
                    · exact HF1.out q (e ▸ hq)
                    · rw [e] at hq
                      cases hq
                      simp
                      omega
                  have HB2 : Hid (Below w.heap.size w w2) := Lib.hid (by
                    have hb0 := HB1.out
                    exact Below.grown_ (D := w.heap.size) (by exact (by repeat (first | with_reducible exact Below.refl _ _ | with_reducible assumption | with_reducible refine Below.drew ?_ | with_reducible refine Below.drewN ?_ _ | with_reducible refine Below.alloc2 ?_ _ | with_reducible refine Below.alloc ?_ (by first | omega | (simp <;> omega)) _ | with_reducible refine Below.setCell ?_ (by first | omega | (simp <;> omega)) _ | with_reducible refine Below.step2 (by with_reducible assumption) ?_ | with_reducible refine Below.step (by with_reducible assumption) ?_ (by first | omega | (simp <;> omega))))) hg2 (by simp; omega) (fun q hq => (HT1.out.own.lt q hq).1))
                  have ow2 := HB2.out.size
                  have ol2 := HK2.out.lt
                  clear ht2 hg2 ha2
                  go_wp2
                  refine behind_ok ?_
                  refine goes_last (i := 14) rfl (by kernel_rfl) (by kernel_rfl) ?_
                  go_wp2
                  refine behind_ok (goes_done (by kernel_rfl) ?_)
                  go_wp2
                  (refine ⟨⟨_, Wi ++ [⟨p, yn, yi, xd, xk⟩], xs, rfl, Lib.hid ?_, Lib.hid ?_, Lib.hid ?_, (HT2.out.fewer _).gone_, Bk.other HK2.out (show wq.heap.size ≠ g by omega) _, HF3, Lib.hid ?_, HB2.out.setCell hgb _⟩, ?_⟩; (focus (have := HZ9.out; omega)); (focus (have := HE9.out; rw [List.append_assoc]; simpa using this)); (focus (exact fun x hx => HL3.out x (List.mem_cons_of_mem _ hx))); (focus (intro q hq; have e3 : some g = some q := (by split at hq <;> exact hq); cases e3; exact hgx)); (simp [intOf]; omega))
            · have hl9 : left = 0 := by have := HL1.out.1; omega
              have e9 := HL2.out
              rw [hl9, take_zero, List.append_nil] at e9
              obtain ⟨e8, e9⟩ := e9
              (try dsimp only at e9)
              have HE : Hid (Wi = G1 ∧ Hi = G2) := Lib.hid ⟨e8, e9⟩
              clear e8 e9 hl9
              go_wp2
              refine ⟨⟨k + 1, G1, G2, by omega, by go_num, HG, ?_, HB1.out⟩, by simp [intOf]; omega⟩
              have h9 := HT1.out
              rw [HE.out.1, HE.out.2] at h9
              exact h9
    · go_wp2_with (at_builtin; go_loud (refine Two.app_all HT.out rfl _ _ rfl rfl rfl (by have := HL.out; omega) HB.out.size ?_; intro v1 w1 ho1 hg1; have HO1 := Lib.hid ho1; have HG1 := Lib.hid hg1; clear ho1 hg1))
      go_ret
      refine ⟨?_, _, rfl, ?_⟩
      · exact Below.grown_ (D := w.heap.size) HB.out HG1.out HB.out.size (fun q hq => (HT.out.own.lt q hq).1)
      · have e : lotsP p l = W ++ HH := by
          have := HR.out
          rw [List.take_of_length_le (by rw [HLEN.out]; omega)] at this
          rw [lotsP, this]
        rw [e]
        exact HO1.out

end Go.Proofs.Ytbeijeblbchglaa
