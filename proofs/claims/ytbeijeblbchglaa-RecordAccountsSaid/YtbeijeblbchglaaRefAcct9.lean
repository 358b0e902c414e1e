/- Chapter 9, walks: the reference's account. -/
import Derived.Test.YtbeijeblbchglaaAcctP9
namespace Go.Proofs.Ytbeijeblbchglaa
open Go.RowKit Go.WideShapes Go.Deep

theorem swap_mul (n k a : Int) : n * (k * a) = n * k * a := (Int.mul_assoc n k a).symm
set_option maxRecDepth 100000 in
set_option maxHeartbeats 8000000 in
theorem refAccount_any (T A : Option Addr) (tn tc n c : Nat) (t : List Q4) (l : List Mv) (day : Int) (w : World) (ht : Rws Q4.cs 4 w w.heap.size T tn tc t) (h : Rws Mv.cs 4 w w.heap.size A n c l) (hg : Good t l) (hd : dayB day = true) :
    Calls Try.prog 39 #[.slice T tn tc, .slice A n c, .int .i64 day] w fun e w' => Below w.heap.size w w' ∧ ∃ v, e = .returned v ∧ w'.ownsRow w.heap.size 85 4 v (chgs t (upM l day) day).length ((chgs t (upM l day) day).flatMap Q4.cs) := by
  have hcap := ht.cap
  have hmax := ht.max
  have hday := dayB_iff.1 hd
  have hgu := hg.up day
  have hlen := hg.chgs_len day
  have htn : tn ≤ 60 := by rw [← ht.len]; exact hg.tn
  have hfil : l.filter (dayF day) = upM l day := hg.filter day
  have HEA := Lib.hid (fun y => hg.each hday.1 (y := y))
  have hch := hg.chgs_ (l' := upM l day) day
  rw [hch] at hlen ⊢
  obtain ⟨L, hL⟩ : ∃ L, upM l day = L := ⟨_, rfl⟩
  rw [hL] at hgu hfil HEA hlen ⊢
  have MU : Hid (∀ W, Below w.heap.size w W → Calls Try.prog 44 #[.slice A n c, .int .i64 day] W fun e w' => Below W.heap.size W w' ∧ ∃ v, e = .returned v ∧ w'.ownsRow W.heap.size 90 4 v L.length (L.flatMap Mv.cs)) := Lib.hid fun W hW => by
    have := refUpto_any A n c l day W (h.below hW (Nat.le_refl _) hW.size) (by rw [← h.len]; exact hg.ln)
    rwa [hfil] at this
  obtain ⟨LL, hLL⟩ : ∃ LL, lotsT t L = LL := ⟨_, rfl⟩
  obtain ⟨N, hN⟩ : ∃ N, LL.length = N := ⟨_, rfl⟩
  have LO : Hid (∀ A c W, Below w.heap.size w W → Rws Mv.cs 4 W W.heap.size A L.length c L → Calls Try.prog 28 #[.slice T tn tc, .slice A L.length c] W fun e w' => Below W.heap.size W w' ∧ ∃ v, e = .returned v ∧ w'.ownsRow W.heap.size 54 5 v N (LL.flatMap Lt.cs)) := Lib.hid fun A c W hW hr => by
    have := refLots_any T A tn tc L.length c t L W (ht.below hW (Nat.le_refl _) hW.size) hr hgu.st hgu.ok hgu.ln htn
    rwa [hLL, hN] at this
  rw [hLL] at HEA hlen ⊢
  have HNL := Lib.hid hN
  have hNb : N ≤ 18000 := by
    rw [List.length_map, hN] at hlen
    have h5 : t.length * l.length ≤ 60 * 300 := Nat.mul_le_mul hg.tn hg.ln
    omega
  have HTL := Lib.hid ht.len
  have HT : Hid (∀ w', Below w.heap.size w w' → Rws Q4.cs 4 w' w.heap.size T tn tc t) := fun w' hb => ht.below hb (Nat.le_refl _) (Nat.le_refl _)
  clear ht h hg hgu hd hL hLL hN hlen hfil hch
  go_enter Try.func39, Try.ntmps39
  go_wp2_with (first
    | (go_at_call 44; refine (MU.out _ (by exact (by repeat (first | with_reducible exact Below.refl _ _ | with_reducible assumption | with_reducible refine Below.drew ?_ | with_reducible refine Below.drewN ?_ _ | with_reducible refine Below.alloc2 ?_ _ | with_reducible refine Below.alloc ?_ (by first | omega | (simp <;> omega)) _ | with_reducible refine Below.setCell ?_ (by first | omega | (simp <;> omega)) _ | with_reducible refine Below.step2 (by with_reducible assumption) ?_ | with_reducible refine Below.step (by with_reducible assumption) ?_ (by first | omega | (simp <;> omega)))))).mono ?_; rintro e w2 ⟨hb2, v, rfl, hown⟩; obtain ⟨A2, c2, rfl, hr⟩ := Rws.of_own hown rfl; have HR2 := Lib.hid hr; have HB2 : Hid (Below w.heap.size w w2) := Lib.hid (by exact (by repeat (first | with_reducible exact Below.refl _ _ | with_reducible assumption | with_reducible refine Below.drew ?_ | with_reducible refine Below.drewN ?_ _ | with_reducible refine Below.alloc2 ?_ _ | with_reducible refine Below.alloc ?_ (by first | omega | (simp <;> omega)) _ | with_reducible refine Below.setCell ?_ (by first | omega | (simp <;> omega)) _ | with_reducible refine Below.step2 (by with_reducible assumption) ?_ | with_reducible refine Below.step (by with_reducible assumption) ?_ (by first | omega | (simp <;> omega))))); clear hown hr hb2)
    | (go_at_call 28; refine (LO.out _ _ _ HB2.out HR2.out).mono ?_; rintro e w3 ⟨hb3, v, rfl, hown⟩; obtain ⟨A3, c3, rfl, hr⟩ := Rws.of_own hown HNL.out; have HR3 := Lib.hid hr; have HB3 : Hid (Below w.heap.size w w3) := Lib.hid (Below.step2 hb3 HB2.out); clear hown hr hb3))
  go_loopw [8, 9, 10, 11, 12, 13, 14] (fun vo i _ _ _ _ _ wr => ∃ j : Nat, j ≤ N ∧ i = .int .i64 j ∧ wr.ownsRow w3.heap.size 85 4 vo ((LL.take j).map (chgR day t)).length (((LL.take j).map (chgR day t)).flatMap Q4.cs) ∧ Below w3.heap.size w3 wr ∧ Below w.heap.size w wr) (fun _ i _ _ _ _ _ _ => N - (intOf i).toNat)
  case atStart => exact ⟨0, Nat.zero_le _, rfl, World.ownsRow_nil _ _ _ _, Below.refl _ _, HB3.out⟩
  case round =>
    obtain ⟨j, hj, rfl, ho, hc, hb⟩ := hrel
    have HB := Lib.hid hb
    have HC := Lib.hid hc
    have HO := Lib.hid ho
    have ow := hb.size
    by_cases hlt : j < N
    · have hrows := HR3.out.below hc (Nat.le_refl _) hc.size
      have hcap3 := hrows.cap
      have hmax3 := hrows.max
      obtain ⟨b2, o2, ⟨yp, yn, yi, yd, yo⟩, rfl, ob2, hy, e0, e1, e2, e3, e4⟩ := hrows.lt hlt
      dsimp only at e0 e1 e2 e3 e4
      obtain ⟨hok, k, ⟨xs, xa, xb, xc⟩, hx, hk, hix, htr, htk⟩ := HEA.out _ (List.mem_of_getElem? hy)
      dsimp only at hix htr
      rw [HTL.out] at hk
      obtain ⟨b, o, x5, rfl, hbb, hx5, c0, c1, c2, c3⟩ := (HT.out _ hb).q4 hk
      obtain rfl : x5 = ⟨xs, xa, xb, xc⟩ := by rw [hx] at hx5; exact (Option.some.inj hx5).symm
      dsimp only at c0 c1 c2 c3
      have TR : Hid (∀ W, Below w.heap.size w W → Calls Try.prog 45 #[.slice (some ⟨b, o, none⟩) tn tc, .string yp] W fun e w' => W = w' ∧ e = .returned (.int .i64 (k : Int))) := Lib.hid fun W hW => by
        have := refTerm_any _ tn tc _ t yp W (HT.out W hW)
        rwa [hix] at this
      have hst : (LL.take (j + 1)).map (chgR day t) = (LL.take j).map (chgR day t) ++ [chgR day t ⟨yp, yn, yi, yd, yo⟩] := by
        rw [take_step hy]
        simp
      obtain ⟨⟨k1, k2⟩, ⟨m1, m2⟩, -⟩ := chg_bd hok hday.2 htk
      have hE := endD_ok hok hday.2
      have hnb := hok.1
      have hob := hok.2
      obtain ⟨⟨t1, t2⟩, -, t3, t4⟩ := htk
      obtain ⟨E, hEE⟩ : ∃ E, endD ⟨yp, yn, yi, yd, yo⟩ day = E := ⟨_, rfl⟩
      have HEE : Hid ((if yo = -1 then day else yd) = E) := Lib.hid hEE
      (try dsimp only at k1 k2 m1 m2 hE t1 t2 t3 t4 hnb hob)
      rw [hEE] at k1 k2 m1 m2 hE
      obtain ⟨K, hK⟩ : ∃ K, wks yi E xb = K := ⟨_, rfl⟩
      have WK : Hid (∀ W, Calls Try.prog 32 #[.int .i64 yi, .int .i64 E, .int .i64 xb] W fun e w' => W = w' ∧ e = .returned (.int .i64 K)) := Lib.hid fun W => by
        have := refWeeks_any yi E xb hE W
        rwa [hK] at this
      have hcg : chgR day t ⟨yp, yn, yi, yd, yo⟩ = ⟨yp, yn, K, yn * (K * xa + if yo = 2 then xc else 0)⟩ := by
        unfold chgR
        dsimp only
        rw [htr]
        unfold chg
        dsimp only
        rw [hEE, hK]
      rw [hcg] at hst
      rw [hK] at k1 k2 m1 m2
      have p1 := mul_bd (show 0 ≤ yn by omega) hnb.2.1 k1 k2
      have p2 := mul_bd (show 0 ≤ yn by omega) hnb.2.1 m1 m2
      have p3 := mul_bd (show 0 ≤ yn by omega) hnb.2.1 t3 t4
      rw [swap_mul] at p2
      have hw1 : IntKind.i64.wrap (yn * K) = yn * K := IntWalk.i64_in _ (by omega)
      have hw2 : IntKind.i64.wrap (yn * K * xa) = yn * K * xa := IntWalk.i64_in _ (by omega)
      have hw3 : IntKind.i64.wrap (yn * xc) = yn * xc := IntWalk.i64_in _ (by omega)
      have hw4 : IntKind.i64.wrap (yn * K * xa + yn * xc) = yn * K * xa + yn * xc := IntWalk.i64_in _ (by omega)
      have z1 : (0 : Int) ≤ (k : Int) := by omega
      have z2 : (k : Int) < (tn : Int) := by omega
      have z3 : (0 : Int) ≤ (j : Int) := by omega
      have z4 : (j : Int) < (N : Int) := by omega
      have ob : b < wr.heap.size := by omega
      obtain ⟨SS, hSS⟩ : ∃ SS, (LL.take j).map (chgR day t) = SS := ⟨_, rfl⟩
      have HSL : Hid (SS.length ≤ 30000) := Lib.hid (by
        rw [← hSS, List.length_map, List.length_take]
        omega)
      rw [hSS] at hst HO
      clear hrows hy hx hx5 hix htr hEE hK hcg hok hE hb hc ho hSS k1 k2 m1 m2 p1 p2 p3 t1 t2 t3 t4 hnb
      by_cases h1 : yo = -1
      · have e5 : day = E := by have := HEE.out; rwa [if_pos h1] at this
        have h2 : ¬ yo = 2 := by omega
        obtain ⟨V, hV⟩ : ∃ V, yn * K * xa = V := ⟨_, rfl⟩
        rw [if_neg h2, Int.add_zero, swap_mul, hV] at hst
        rw [hV] at hw2
        have HST := Lib.hid hst
        subst e5
        subst h1
        clear hst h2 hw3 hw4 hob
        (
                go_wp2_with (first
                  | (at_builtin; go_loud (refine app_ch (W := SS) (base := w3.heap.size) (vw := u8) ?_ rfl _ _ rfl rfl ⟨yp, yn, K, V⟩ _ rfl ?_ HSL.out ?_ ?_; (focus (exact own_step HO.out (by exact (by repeat (first | with_reducible exact Below.refl _ _ | with_reducible assumption | with_reducible refine Below.drew ?_ | with_reducible refine Below.drewN ?_ _ | with_reducible refine Below.alloc2 ?_ _ | with_reducible refine Below.alloc ?_ (by first | omega | (simp <;> omega)) _ | with_reducible refine Below.setCell ?_ (by first | omega | (simp <;> omega)) _ | with_reducible refine Below.step2 (by with_reducible assumption) ?_ | with_reducible refine Below.step (by with_reducible assumption) ?_ (by first | omega | (simp <;> omega))))))); (focus (show Bk _ _ _ #[.string yp, .int .i64 yn, .int .i64 K, .int .i64 V]; exact (by repeat (first | with_reducible assumption | with_reducible exact Bk.at_ (by first | (simp; done) | omega) | with_reducible refine Bk.alloc ?_ _ | with_reducible refine Bk.drew ?_ | with_reducible refine Bk.drewN ?_ _ | with_reducible refine Bk.step (by with_reducible assumption) ?_ (by first | omega | (simp <;> omega)))))); (focus (have := HC.out.size; (try simp); omega)); intro v6 w6 ho6 hg6 ha6; have HO6 := Lib.hid ho6; have HG6 := Lib.hid hg6; clear ho6 hg6 ha6))
                  | (go_at_call 45; with_reducible refine (TR.out _ (by have hb0 := HB.out; exact (by repeat (first | with_reducible exact Below.refl _ _ | with_reducible assumption | with_reducible refine Below.drew ?_ | with_reducible refine Below.drewN ?_ _ | with_reducible refine Below.alloc2 ?_ _ | with_reducible refine Below.alloc ?_ (by first | omega | (simp <;> omega)) _ | with_reducible refine Below.setCell ?_ (by first | omega | (simp <;> omega)) _ | with_reducible refine Below.step2 (by with_reducible assumption) ?_ | with_reducible refine Below.step (by with_reducible assumption) ?_ (by first | omega | (simp <;> omega)))))).mono ?_; rintro e w' ⟨rfl, rfl⟩)
                  | (go_at_call 32; with_reducible refine (WK.out _).mono ?_; rintro e w' ⟨rfl, rfl⟩))
                go_roundw
                case rel =>
                  have hb0 := HB.out
                  have hc0 := HC.out
                  have hg6 := HG6.out
                  refine ⟨j + 1, by omega, by go_num, ?_, ?_, ?_⟩
                  · rw [HST.out]
                    exact HO6.out
                  · exact Below.grown_ (D := w3.heap.size) (by exact (by repeat (first | with_reducible exact Below.refl _ _ | with_reducible assumption | with_reducible refine Below.drew ?_ | with_reducible refine Below.drewN ?_ _ | with_reducible refine Below.alloc2 ?_ _ | with_reducible refine Below.alloc ?_ (by first | omega | (simp <;> omega)) _ | with_reducible refine Below.setCell ?_ (by first | omega | (simp <;> omega)) _ | with_reducible refine Below.step2 (by with_reducible assumption) ?_ | with_reducible refine Below.step (by with_reducible assumption) ?_ (by first | omega | (simp <;> omega))))) hg6 (by have := hc0.size; (try simp); omega) (fun q hq => (HO.out.lt q hq).1)
                  · exact Below.grown_ (D := w.heap.size) (by exact (by repeat (first | with_reducible exact Below.refl _ _ | with_reducible assumption | with_reducible refine Below.drew ?_ | with_reducible refine Below.drewN ?_ _ | with_reducible refine Below.alloc2 ?_ _ | with_reducible refine Below.alloc ?_ (by first | omega | (simp <;> omega)) _ | with_reducible refine Below.setCell ?_ (by first | omega | (simp <;> omega)) _ | with_reducible refine Below.step2 (by with_reducible assumption) ?_ | with_reducible refine Below.step (by with_reducible assumption) ?_ (by first | omega | (simp <;> omega))))) hg6 (by have := hb0.size; (try simp); omega) (fun q hq => by have := (HO.out.lt q hq).1; have := HB3.out.size; omega)
                case measure => simp [intOf]; omega)
      · have e5 : yd = E := by have := HEE.out; rwa [if_neg h1] at this
        have d1 : ¬ yo < 0 := by omega
        subst e5
        by_cases h2 : yo = 2
        · obtain ⟨V, hV⟩ : ∃ V, yn * K * xa + yn * xc = V := ⟨_, rfl⟩
          rw [if_pos h2, Int.mul_add, swap_mul, hV] at hst
          rw [hV] at hw4
          have HST := Lib.hid hst
          subst h2
          clear hst h1 hob d1
          (
                  go_wp2_with (first
                    | (at_builtin; go_loud (refine app_ch (W := SS) (base := w3.heap.size) (vw := u8) ?_ rfl _ _ rfl rfl ⟨yp, yn, K, V⟩ _ rfl ?_ HSL.out ?_ ?_; (focus (exact own_step HO.out (by exact (by repeat (first | with_reducible exact Below.refl _ _ | with_reducible assumption | with_reducible refine Below.drew ?_ | with_reducible refine Below.drewN ?_ _ | with_reducible refine Below.alloc2 ?_ _ | with_reducible refine Below.alloc ?_ (by first | omega | (simp <;> omega)) _ | with_reducible refine Below.setCell ?_ (by first | omega | (simp <;> omega)) _ | with_reducible refine Below.step2 (by with_reducible assumption) ?_ | with_reducible refine Below.step (by with_reducible assumption) ?_ (by first | omega | (simp <;> omega))))))); (focus (show Bk _ _ _ #[.string yp, .int .i64 yn, .int .i64 K, .int .i64 V]; exact (by repeat (first | with_reducible assumption | with_reducible exact Bk.at_ (by first | (simp; done) | omega) | with_reducible refine Bk.alloc ?_ _ | with_reducible refine Bk.drew ?_ | with_reducible refine Bk.drewN ?_ _ | with_reducible refine Bk.step (by with_reducible assumption) ?_ (by first | omega | (simp <;> omega)))))); (focus (have := HC.out.size; (try simp); omega)); intro v6 w6 ho6 hg6 ha6; have HO6 := Lib.hid ho6; have HG6 := Lib.hid hg6; clear ho6 hg6 ha6))
                    | (go_at_call 45; with_reducible refine (TR.out _ (by have hb0 := HB.out; exact (by repeat (first | with_reducible exact Below.refl _ _ | with_reducible assumption | with_reducible refine Below.drew ?_ | with_reducible refine Below.drewN ?_ _ | with_reducible refine Below.alloc2 ?_ _ | with_reducible refine Below.alloc ?_ (by first | omega | (simp <;> omega)) _ | with_reducible refine Below.setCell ?_ (by first | omega | (simp <;> omega)) _ | with_reducible refine Below.step2 (by with_reducible assumption) ?_ | with_reducible refine Below.step (by with_reducible assumption) ?_ (by first | omega | (simp <;> omega)))))).mono ?_; rintro e w' ⟨rfl, rfl⟩)
                    | (go_at_call 32; with_reducible refine (WK.out _).mono ?_; rintro e w' ⟨rfl, rfl⟩))
                  go_roundw
                  case rel =>
                    have hb0 := HB.out
                    have hc0 := HC.out
                    have hg6 := HG6.out
                    refine ⟨j + 1, by omega, by go_num, ?_, ?_, ?_⟩
                    · rw [HST.out]
                      exact HO6.out
                    · exact Below.grown_ (D := w3.heap.size) (by exact (by repeat (first | with_reducible exact Below.refl _ _ | with_reducible assumption | with_reducible refine Below.drew ?_ | with_reducible refine Below.drewN ?_ _ | with_reducible refine Below.alloc2 ?_ _ | with_reducible refine Below.alloc ?_ (by first | omega | (simp <;> omega)) _ | with_reducible refine Below.setCell ?_ (by first | omega | (simp <;> omega)) _ | with_reducible refine Below.step2 (by with_reducible assumption) ?_ | with_reducible refine Below.step (by with_reducible assumption) ?_ (by first | omega | (simp <;> omega))))) hg6 (by have := hc0.size; (try simp); omega) (fun q hq => (HO.out.lt q hq).1)
                    · exact Below.grown_ (D := w.heap.size) (by exact (by repeat (first | with_reducible exact Below.refl _ _ | with_reducible assumption | with_reducible refine Below.drew ?_ | with_reducible refine Below.drewN ?_ _ | with_reducible refine Below.alloc2 ?_ _ | with_reducible refine Below.alloc ?_ (by first | omega | (simp <;> omega)) _ | with_reducible refine Below.setCell ?_ (by first | omega | (simp <;> omega)) _ | with_reducible refine Below.step2 (by with_reducible assumption) ?_ | with_reducible refine Below.step (by with_reducible assumption) ?_ (by first | omega | (simp <;> omega))))) hg6 (by have := hb0.size; (try simp); omega) (fun q hq => by have := (HO.out.lt q hq).1; have := HB3.out.size; omega)
                  case measure => simp [intOf]; omega)
        · have d2 : (yo == 2) = false := by simpa using h2
          obtain ⟨V, hV⟩ : ∃ V, yn * K * xa = V := ⟨_, rfl⟩
          rw [if_neg h2, Int.add_zero, swap_mul, hV] at hst
          rw [hV] at hw2
          have HST := Lib.hid hst
          clear hst h1 h2 hob hw3 hw4
          (
                  go_wp2_with (first
                    | (at_builtin; go_loud (refine app_ch (W := SS) (base := w3.heap.size) (vw := u8) ?_ rfl _ _ rfl rfl ⟨yp, yn, K, V⟩ _ rfl ?_ HSL.out ?_ ?_; (focus (exact own_step HO.out (by exact (by repeat (first | with_reducible exact Below.refl _ _ | with_reducible assumption | with_reducible refine Below.drew ?_ | with_reducible refine Below.drewN ?_ _ | with_reducible refine Below.alloc2 ?_ _ | with_reducible refine Below.alloc ?_ (by first | omega | (simp <;> omega)) _ | with_reducible refine Below.setCell ?_ (by first | omega | (simp <;> omega)) _ | with_reducible refine Below.step2 (by with_reducible assumption) ?_ | with_reducible refine Below.step (by with_reducible assumption) ?_ (by first | omega | (simp <;> omega))))))); (focus (show Bk _ _ _ #[.string yp, .int .i64 yn, .int .i64 K, .int .i64 V]; exact (by repeat (first | with_reducible assumption | with_reducible exact Bk.at_ (by first | (simp; done) | omega) | with_reducible refine Bk.alloc ?_ _ | with_reducible refine Bk.drew ?_ | with_reducible refine Bk.drewN ?_ _ | with_reducible refine Bk.step (by with_reducible assumption) ?_ (by first | omega | (simp <;> omega)))))); (focus (have := HC.out.size; (try simp); omega)); intro v6 w6 ho6 hg6 ha6; have HO6 := Lib.hid ho6; have HG6 := Lib.hid hg6; clear ho6 hg6 ha6))
                    | (go_at_call 45; with_reducible refine (TR.out _ (by have hb0 := HB.out; exact (by repeat (first | with_reducible exact Below.refl _ _ | with_reducible assumption | with_reducible refine Below.drew ?_ | with_reducible refine Below.drewN ?_ _ | with_reducible refine Below.alloc2 ?_ _ | with_reducible refine Below.alloc ?_ (by first | omega | (simp <;> omega)) _ | with_reducible refine Below.setCell ?_ (by first | omega | (simp <;> omega)) _ | with_reducible refine Below.step2 (by with_reducible assumption) ?_ | with_reducible refine Below.step (by with_reducible assumption) ?_ (by first | omega | (simp <;> omega)))))).mono ?_; rintro e w' ⟨rfl, rfl⟩)
                    | (go_at_call 32; with_reducible refine (WK.out _).mono ?_; rintro e w' ⟨rfl, rfl⟩))
                  go_roundw
                  case rel =>
                    have hb0 := HB.out
                    have hc0 := HC.out
                    have hg6 := HG6.out
                    refine ⟨j + 1, by omega, by go_num, ?_, ?_, ?_⟩
                    · rw [HST.out]
                      exact HO6.out
                    · exact Below.grown_ (D := w3.heap.size) (by exact (by repeat (first | with_reducible exact Below.refl _ _ | with_reducible assumption | with_reducible refine Below.drew ?_ | with_reducible refine Below.drewN ?_ _ | with_reducible refine Below.alloc2 ?_ _ | with_reducible refine Below.alloc ?_ (by first | omega | (simp <;> omega)) _ | with_reducible refine Below.setCell ?_ (by first | omega | (simp <;> omega)) _ | with_reducible refine Below.step2 (by with_reducible assumption) ?_ | with_reducible refine Below.step (by with_reducible assumption) ?_ (by first | omega | (simp <;> omega))))) hg6 (by have := hc0.size; (try simp); omega) (fun q hq => (HO.out.lt q hq).1)
                    · exact Below.grown_ (D := w.heap.size) (by exact (by repeat (first | with_reducible exact Below.refl _ _ | with_reducible assumption | with_reducible refine Below.drew ?_ | with_reducible refine Below.drewN ?_ _ | with_reducible refine Below.alloc2 ?_ _ | with_reducible refine Below.alloc ?_ (by first | omega | (simp <;> omega)) _ | with_reducible refine Below.setCell ?_ (by first | omega | (simp <;> omega)) _ | with_reducible refine Below.step2 (by with_reducible assumption) ?_ | with_reducible refine Below.step (by with_reducible assumption) ?_ (by first | omega | (simp <;> omega))))) hg6 (by have := hb0.size; (try simp); omega) (fun q hq => by have := (HO.out.lt q hq).1; have := HB3.out.size; omega)
                  case measure => simp [intOf]; omega)
    · have HOE : Hid (wr.ownsRow w.heap.size 85 4 u8 (LL.map (chgR day t)).length ((LL.map (chgR day t)).flatMap Q4.cs)) := Lib.hid (by
        have := own_base ho HB3.out.size
        rwa [List.take_of_length_le (by rw [HNL.out]; omega)] at this)
      clear hb hc ho
      go_wp2
      go_ret
      exact ⟨HB.out, _, rfl, HOE.out⟩

end Go.Proofs.Ytbeijeblbchglaa
