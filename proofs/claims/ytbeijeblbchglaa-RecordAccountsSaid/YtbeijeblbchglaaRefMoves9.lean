/- Chapter 9, walks: CheckMoves, Check of the reference. -/
import Derived.Test.YtbeijeblbchglaaCounts9
import Derived.Test.YtbeijeblbchglaaRefTerms9
import Derived.Test.YtbeijeblbchglaaWeeks9
namespace Go.Proofs.Ytbeijeblbchglaa
open Go.RowKit

theorem okM_step {l : List Mv} {k : Nat} {x : Mv} (hx : l[k]? = some x) (h : (l.take k).all okM = true) (h2 : okM x = true) : (l.take (k + 1)).all okM = true := by
  rw [take_step hx, List.all_append, h]
  simp [h2]
theorem Bk.three_set {w : World} {g t : Nat} {a b c : Value} (h : Bk w g t #[a, b, c]) (x y z : Value) : Bk (((w.setCell ⟨g, 0, none⟩ x).setCell ⟨g, 1, none⟩ y).setCell ⟨g, 2, none⟩ z) g t #[x, y, z] := by
  simpa using ((h.set_ 0 x).set_ 1 y).set_ 2 z
theorem lastD_zero {l : List Mv} : lastD (l.take 0) = 0 := by simp [lastD]
set_option maxRecDepth 100000 in
set_option maxHeartbeats 16000000 in
theorem refCheckMoves_any (A T : Option Addr) (n c tn tc : Nat) (t : List Q4) (l : List Mv) (w : World) (ht : Rws Q4.cs 4 w w.heap.size T tn tc t) (h : Rws Mv.cs 4 w w.heap.size A n c l) :
    Calls Try.prog 23 #[.slice T tn tc, .slice A n c] w fun e w' => Below w.heap.size w w' ∧ e = .returned (.int .i64 (moveErr t l)) := by
  have hcap := h.cap
  have hmax := h.max
  have HLEN := Lib.hid h.len
  have H : Hid (∀ w', Below w.heap.size w w' → Rws Mv.cs 4 w' w.heap.size A n c l) := fun w' hb => h.below hb (Nat.le_refl _) (Nat.le_refl _)
  have H3 : Hid (∀ w', Below w.heap.size w w' → Rws Mv.cs 4 w' w'.heap.size A n c l) := fun w' hb => h.below hb (Nat.le_refl _) hb.size
  have H2 : Hid (∀ w', Below w.heap.size w w' → Rws Q4.cs 4 w' w.heap.size T tn tc t) := fun w' hb => ht.below hb (Nat.le_refl _) (Nat.le_refl _)
  obtain ⟨R, hR⟩ : ∃ R, moveErr t l = R := ⟨_, rfl⟩
  have HR0 := Lib.hid hR
  rw [hR]
  clear hR h ht
  by_cases hbig : 300 < n
  · obtain rfl : R = 8 := by rw [← HR0.out, moveErr, HLEN.out, if_pos hbig]
    go_enter Try.func23, Try.ntmps23
    go_wp2
    go_ret
    exact ⟨(by repeat (first | with_reducible exact Below.refl _ _ | with_reducible assumption | with_reducible refine Below.drew ?_ | with_reducible refine Below.drewN ?_ _ | with_reducible refine Below.alloc2 ?_ _ | with_reducible refine Below.alloc ?_ (by first | omega | (simp <;> omega)) _ | with_reducible refine Below.setCell ?_ (by first | omega | (simp <;> omega)) _ | with_reducible refine Below.step2 (by with_reducible assumption) ?_ | with_reducible refine Below.step (by with_reducible assumption) ?_ (by first | omega | (simp <;> omega)))), rfl⟩
  have HR : Hid (mGo t [] l = R) := Lib.hid (by rw [← HR0.out, moveErr, HLEN.out, if_neg hbig])
  go_enter Try.func23, Try.ntmps23
  go_wp2
  go_loopw [5, 6, 7] (fun i _ _ wr => ∃ k : Nat, k ≤ n ∧ i = .int .i64 k ∧ Hid (mGo t [] l = mGo t (l.take k) (l.drop k)) ∧ Hid ((l.take k).all okM = true) ∧ Hid (bdM (l.take k) k) ∧ Below w.heap.size w wr) (fun i _ _ _ => n - (intOf i).toNat)
  case atStart => exact ⟨0, Nat.zero_le _, rfl, Lib.hid rfl, Lib.hid rfl, Lib.hid (fun q => by simp [stock]), (by repeat (first | with_reducible exact Below.refl _ _ | with_reducible assumption | with_reducible refine Below.drew ?_ | with_reducible refine Below.drewN ?_ _ | with_reducible refine Below.alloc2 ?_ _ | with_reducible refine Below.alloc ?_ (by first | omega | (simp <;> omega)) _ | with_reducible refine Below.setCell ?_ (by first | omega | (simp <;> omega)) _ | with_reducible refine Below.step2 (by with_reducible assumption) ?_ | with_reducible refine Below.step (by with_reducible assumption) ?_ (by first | omega | (simp <;> omega))))⟩
  case round =>
    obtain ⟨k, hk, rfl, HV, HO, HBD, hb⟩ := hrel
    have HB := Lib.hid hb
    have ow := hb.size
    by_cases hlt : k < n
    · obtain ⟨b, o, ⟨xd, xk, xp, xn⟩, rfl, hbb, hx, c0, c1, c2, c3⟩ := (H.out _ hb).mv hlt
      dsimp only at c0 c1 c2 c3
      have HX := Lib.hid hx
      have ob : b < wr.heap.size := by omega
      obtain ⟨b1, e1⟩ : ∃ b, dayB xd = b := ⟨_, rfl⟩
      obtain ⟨b2, e2⟩ : ∃ b, inR 0 2 xk = b := ⟨_, rfl⟩
      obtain ⟨b3, e3⟩ : ∃ b, inR 1 100000 xn = b := ⟨_, rfl⟩
      obtain ⟨b5, e5⟩ : ∃ b, hasT t xp = b := ⟨_, rfl⟩
      obtain ⟨D, eD⟩ : ∃ D, lastD (l.take k) = D := ⟨_, rfl⟩
      obtain ⟨I, hI⟩ : ∃ I, ixT t xp = I := ⟨_, rfl⟩
      have hIv : decide (0 ≤ I) = b5 := by rw [← hI, ixT_has, e5]
      obtain ⟨C0, q0⟩ : ∃ C, cnt 0 (l.take k) xp = C := ⟨_, rfl⟩
      obtain ⟨C1, q1⟩ : ∃ C, cnt 1 (l.take k) xp = C := ⟨_, rfl⟩
      obtain ⟨C2, q2⟩ : ∃ C, cnt 2 (l.take k) xp = C := ⟨_, rfl⟩
      have B1 := Lib.hid e1
      have B2 := Lib.hid e2
      have B3 := Lib.hid e3
      have hst := stock_cnt (l.take k) xp HO.out
      rw [q0, q1, q2] at hst
      have HST : Hid (0 ≤ C0 - C1 - C2) := Lib.hid (by rw [← hst]; exact (HBD.out xp).1)
      have HE : Hid (mE t (l.take k) ⟨xd, xk, xp, xn⟩ = mEr b1 b2 b3 (decide (xd < D)) b5 (decide (C0 - C1 - C2 + gn ⟨xd, xk, xp, xn⟩ < 0))) := Lib.hid (by simp only [mE, e1, e2, e3, e5, eD, hst])
      have hlen : (l.take k).length ≤ 300 := by rw [List.length_take, HLEN.out]; omega
      have bd0 := cnt_bd (l.take k) 0 xp HO.out
      have bd1 := cnt_bd (l.take k) 1 xp HO.out
      have bd2 := cnt_bd (l.take k) 2 xp HO.out
      rw [q0] at bd0
      rw [q1] at bd1
      rw [q2] at bd2
      have bc : (0 ≤ C0 ∧ C0 ≤ 30000000) ∧ (0 ≤ C1 ∧ C1 ≤ 30000000) ∧ (0 ≤ C2 ∧ C2 ≤ 30000000) := by omega
      have HTM : Hid (∀ W, Below w.heap.size w W → Calls Try.prog 45 #[.slice T tn tc, .string xp] W fun e w' => W = w' ∧ e = .returned (.int .i64 I)) := Lib.hid fun W hW => by
        have := refTerm_any T tn tc _ t xp W (H2.out W hW)
        rwa [hI] at this
      have CN : Hid (∀ W, Below w.heap.size w W → Calls Try.prog 29 #[.slice (some ⟨b, o, none⟩) k c, .string xp] W fun e w' => Below W.heap.size W w' ∧ e = .returned (.agg #[.int .i64 C0, .int .i64 C1, .int .i64 C2])) := Lib.hid fun W hW => by
        have := counts_any _ _ _ (l.take k) xp W ((H3.out W hW).take Mv.wide (show k ≤ n by omega)) HO.out (by omega)
        rwa [q0, q1, q2] at this
      have HON : Hid (okM ⟨xd, xk, xp, xn⟩ = true → (l.take (k + 1)).all okM = true) := Lib.hid fun h => okM_step hx HO.out h
      have z1 : (0 : Int) ≤ (k : Int) := by omega
      have z2 : (k : Int) < (n : Int) := by omega
      have z3 : (k : Int) ≤ (c : Int) := by omega
      rcases Nat.eq_zero_or_pos k with hk0 | hkp
      · have hD0 : D = 0 := by rw [← eD, hk0]; exact lastD_zero
        have hz0 : decide ((0 : Int) < (k : Int)) = false := decide_eq_false (by omega)
        have hz : ¬ (0 : Int) < (k : Int) := by omega
        have hz1 : ¬ 0 < k := by omega
        have hz2 : decide (0 < k) = false := decide_eq_false hz1
        have HKZ := Lib.hid hk0
        clear hk0 hx hb e1 e2 e3 e5 eD hI q0 q1 q2 hst bd0 bd1 bd2
        (
              cases b1
              · (
                          go_wp2_with (first
                            | (go_at_call 31; with_reducible refine (refIsDay_b B1.out _).mono ?_; rintro e w' ⟨rfl, rfl⟩)
                            | (go_at_call 16; with_reducible refine (within_b B2.out _).mono ?_; rintro e w' ⟨rfl, rfl⟩)
                            | (go_at_call 16; with_reducible refine (within_b B3.out _).mono ?_; rintro e w' ⟨rfl, rfl⟩)
                            | (go_at_call 45; refine (HTM.out _ (by have hb0 := HB.out; exact (by repeat (first | with_reducible exact Below.refl _ _ | with_reducible assumption | with_reducible refine Below.drew ?_ | with_reducible refine Below.drewN ?_ _ | with_reducible refine Below.alloc2 ?_ _ | with_reducible refine Below.alloc ?_ (by first | omega | (simp <;> omega)) _ | with_reducible refine Below.setCell ?_ (by first | omega | (simp <;> omega)) _ | with_reducible refine Below.step2 (by with_reducible assumption) ?_ | with_reducible refine Below.step (by with_reducible assumption) ?_ (by first | omega | (simp <;> omega)))))).mono ?_; rintro e w' ⟨rfl, rfl⟩))
                          go_ret
                          have hb0 := HB.out
                          refine ⟨(by repeat (first | with_reducible exact Below.refl _ _ | with_reducible assumption | with_reducible refine Below.drew ?_ | with_reducible refine Below.drewN ?_ _ | with_reducible refine Below.alloc2 ?_ _ | with_reducible refine Below.alloc ?_ (by first | omega | (simp <;> omega)) _ | with_reducible refine Below.setCell ?_ (by first | omega | (simp <;> omega)) _ | with_reducible refine Below.step2 (by with_reducible assumption) ?_ | with_reducible refine Below.step (by with_reducible assumption) ?_ (by first | omega | (simp <;> omega)))), ret_int ?_⟩
                          rw [← HR.out]
                          exact (mGo_bad (E := 2) HX.out HV.out HE.out (by decide)).symm)
              cases b2
              · (
                          go_wp2_with (first
                            | (go_at_call 31; with_reducible refine (refIsDay_b B1.out _).mono ?_; rintro e w' ⟨rfl, rfl⟩)
                            | (go_at_call 16; with_reducible refine (within_b B2.out _).mono ?_; rintro e w' ⟨rfl, rfl⟩)
                            | (go_at_call 16; with_reducible refine (within_b B3.out _).mono ?_; rintro e w' ⟨rfl, rfl⟩)
                            | (go_at_call 45; refine (HTM.out _ (by have hb0 := HB.out; exact (by repeat (first | with_reducible exact Below.refl _ _ | with_reducible assumption | with_reducible refine Below.drew ?_ | with_reducible refine Below.drewN ?_ _ | with_reducible refine Below.alloc2 ?_ _ | with_reducible refine Below.alloc ?_ (by first | omega | (simp <;> omega)) _ | with_reducible refine Below.setCell ?_ (by first | omega | (simp <;> omega)) _ | with_reducible refine Below.step2 (by with_reducible assumption) ?_ | with_reducible refine Below.step (by with_reducible assumption) ?_ (by first | omega | (simp <;> omega)))))).mono ?_; rintro e w' ⟨rfl, rfl⟩))
                          go_ret
                          have hb0 := HB.out
                          refine ⟨(by repeat (first | with_reducible exact Below.refl _ _ | with_reducible assumption | with_reducible refine Below.drew ?_ | with_reducible refine Below.drewN ?_ _ | with_reducible refine Below.alloc2 ?_ _ | with_reducible refine Below.alloc ?_ (by first | omega | (simp <;> omega)) _ | with_reducible refine Below.setCell ?_ (by first | omega | (simp <;> omega)) _ | with_reducible refine Below.step2 (by with_reducible assumption) ?_ | with_reducible refine Below.step (by with_reducible assumption) ?_ (by first | omega | (simp <;> omega)))), ret_int ?_⟩
                          rw [← HR.out]
                          exact (mGo_bad (E := 2) HX.out HV.out HE.out (by decide)).symm)
              cases b3
              · (
                          go_wp2_with (first
                            | (go_at_call 31; with_reducible refine (refIsDay_b B1.out _).mono ?_; rintro e w' ⟨rfl, rfl⟩)
                            | (go_at_call 16; with_reducible refine (within_b B2.out _).mono ?_; rintro e w' ⟨rfl, rfl⟩)
                            | (go_at_call 16; with_reducible refine (within_b B3.out _).mono ?_; rintro e w' ⟨rfl, rfl⟩)
                            | (go_at_call 45; refine (HTM.out _ (by have hb0 := HB.out; exact (by repeat (first | with_reducible exact Below.refl _ _ | with_reducible assumption | with_reducible refine Below.drew ?_ | with_reducible refine Below.drewN ?_ _ | with_reducible refine Below.alloc2 ?_ _ | with_reducible refine Below.alloc ?_ (by first | omega | (simp <;> omega)) _ | with_reducible refine Below.setCell ?_ (by first | omega | (simp <;> omega)) _ | with_reducible refine Below.step2 (by with_reducible assumption) ?_ | with_reducible refine Below.step (by with_reducible assumption) ?_ (by first | omega | (simp <;> omega)))))).mono ?_; rintro e w' ⟨rfl, rfl⟩))
                          go_ret
                          have hb0 := HB.out
                          refine ⟨(by repeat (first | with_reducible exact Below.refl _ _ | with_reducible assumption | with_reducible refine Below.drew ?_ | with_reducible refine Below.drewN ?_ _ | with_reducible refine Below.alloc2 ?_ _ | with_reducible refine Below.alloc ?_ (by first | omega | (simp <;> omega)) _ | with_reducible refine Below.setCell ?_ (by first | omega | (simp <;> omega)) _ | with_reducible refine Below.step2 (by with_reducible assumption) ?_ | with_reducible refine Below.step (by with_reducible assumption) ?_ (by first | omega | (simp <;> omega)))), ret_int ?_⟩
                          rw [← HR.out]
                          exact (mGo_bad (E := 2) HX.out HV.out HE.out (by decide)).symm)
              have hday := dayB_iff.1 B1.out
              by_cases hd : xd < D
              · (exfalso; omega)
              cases b5
              · have hI0 : I < 0 := by have := hIv; simp at this; omega
                have HE := Lib.hid (HE.out.trans (by simp [mEr, hd] : _ = (6 : Int)))
                (
                  go_wp2_with (first
                    | (go_at_call 31; with_reducible refine (refIsDay_b B1.out _).mono ?_; rintro e w' ⟨rfl, rfl⟩)
                    | (go_at_call 16; with_reducible refine (within_b B2.out _).mono ?_; rintro e w' ⟨rfl, rfl⟩)
                    | (go_at_call 16; with_reducible refine (within_b B3.out _).mono ?_; rintro e w' ⟨rfl, rfl⟩)
                    | (go_at_call 45; refine (HTM.out _ (by have hb0 := HB.out; exact (by repeat (first | with_reducible exact Below.refl _ _ | with_reducible assumption | with_reducible refine Below.drew ?_ | with_reducible refine Below.drewN ?_ _ | with_reducible refine Below.alloc2 ?_ _ | with_reducible refine Below.alloc ?_ (by first | omega | (simp <;> omega)) _ | with_reducible refine Below.setCell ?_ (by first | omega | (simp <;> omega)) _ | with_reducible refine Below.step2 (by with_reducible assumption) ?_ | with_reducible refine Below.step (by with_reducible assumption) ?_ (by first | omega | (simp <;> omega)))))).mono ?_; rintro e w' ⟨rfl, rfl⟩))
                  go_quiet (fail)
                  go_wp2_with (first
                    | (go_at_call 31; with_reducible refine (refIsDay_b B1.out _).mono ?_; rintro e w' ⟨rfl, rfl⟩)
                    | (go_at_call 16; with_reducible refine (within_b B2.out _).mono ?_; rintro e w' ⟨rfl, rfl⟩)
                    | (go_at_call 16; with_reducible refine (within_b B3.out _).mono ?_; rintro e w' ⟨rfl, rfl⟩)
                    | (go_at_call 45; refine (HTM.out _ (by have hb0 := HB.out; exact (by repeat (first | with_reducible exact Below.refl _ _ | with_reducible assumption | with_reducible refine Below.drew ?_ | with_reducible refine Below.drewN ?_ _ | with_reducible refine Below.alloc2 ?_ _ | with_reducible refine Below.alloc ?_ (by first | omega | (simp <;> omega)) _ | with_reducible refine Below.setCell ?_ (by first | omega | (simp <;> omega)) _ | with_reducible refine Below.step2 (by with_reducible assumption) ?_ | with_reducible refine Below.step (by with_reducible assumption) ?_ (by first | omega | (simp <;> omega)))))).mono ?_; rintro e w' ⟨rfl, rfl⟩))
                  go_ret
                  have hb0 := HB.out
                  refine ⟨(by repeat (first | with_reducible exact Below.refl _ _ | with_reducible assumption | with_reducible refine Below.drew ?_ | with_reducible refine Below.drewN ?_ _ | with_reducible refine Below.alloc2 ?_ _ | with_reducible refine Below.alloc ?_ (by first | omega | (simp <;> omega)) _ | with_reducible refine Below.setCell ?_ (by first | omega | (simp <;> omega)) _ | with_reducible refine Below.step2 (by with_reducible assumption) ?_ | with_reducible refine Below.step (by with_reducible assumption) ?_ (by first | omega | (simp <;> omega)))), ret_int ?_⟩
                  rw [← HR.out]
                  exact (mGo_bad (E := 6) HX.out HV.out HE.out (by decide)).symm)
              have hI0 : ¬ I < 0 := by have := hIv; simp at this; omega
              have hkb : 0 ≤ xk ∧ xk ≤ 2 := inR_iff.1 B2.out
              have hnb : 1 ≤ xn ∧ xn ≤ 100000 := inR_iff.1 B3.out
              (
                  go_wp2_with (first
                    | (go_at_call 31; with_reducible refine (refIsDay_b B1.out _).mono ?_; rintro e w' ⟨rfl, rfl⟩)
                    | (go_at_call 16; with_reducible refine (within_b B2.out _).mono ?_; rintro e w' ⟨rfl, rfl⟩)
                    | (go_at_call 16; with_reducible refine (within_b B3.out _).mono ?_; rintro e w' ⟨rfl, rfl⟩)
                    | (go_at_call 45; refine (HTM.out _ (by have hb0 := HB.out; exact (by repeat (first | with_reducible exact Below.refl _ _ | with_reducible assumption | with_reducible refine Below.drew ?_ | with_reducible refine Below.drewN ?_ _ | with_reducible refine Below.alloc2 ?_ _ | with_reducible refine Below.alloc ?_ (by first | omega | (simp <;> omega)) _ | with_reducible refine Below.setCell ?_ (by first | omega | (simp <;> omega)) _ | with_reducible refine Below.step2 (by with_reducible assumption) ?_ | with_reducible refine Below.step (by with_reducible assumption) ?_ (by first | omega | (simp <;> omega)))))).mono ?_; rintro e w' ⟨rfl, rfl⟩))
                  go_quiet (fail)
                  go_upto_region 13 with (first
                    | (go_at_call 31; with_reducible refine (refIsDay_b B1.out _).mono ?_; rintro e w' ⟨rfl, rfl⟩)
                    | (go_at_call 16; with_reducible refine (within_b B2.out _).mono ?_; rintro e w' ⟨rfl, rfl⟩)
                    | (go_at_call 16; with_reducible refine (within_b B3.out _).mono ?_; rintro e w' ⟨rfl, rfl⟩)
                    | (go_at_call 45; refine (HTM.out _ (by have hb0 := HB.out; exact (by repeat (first | with_reducible exact Below.refl _ _ | with_reducible assumption | with_reducible refine Below.drew ?_ | with_reducible refine Below.drewN ?_ _ | with_reducible refine Below.alloc2 ?_ _ | with_reducible refine Below.alloc ?_ (by first | omega | (simp <;> omega)) _ | with_reducible refine Below.setCell ?_ (by first | omega | (simp <;> omega)) _ | with_reducible refine Below.step2 (by with_reducible assumption) ?_ | with_reducible refine Below.step (by with_reducible assumption) ?_ (by first | omega | (simp <;> omega)))))).mono ?_; rintro e w' ⟨rfl, rfl⟩))
                  go_cut [7] (fun P wx => ∃ gg, P = .pointer (some ⟨gg, 0, none⟩) ∧ Bk wx gg 57 #[.int .i64 C0, .int .i64 C1, .int .i64 C2] ∧ Bk wx wr.heap.size 90 #[.int .i64 xd, .int .i64 xk, .string xp, .int .i64 xn] ∧ Below w.heap.size w wx)
                  case first =>
                    go_region_with (go_at_call 29; refine (CN.out _ (by have hb0 := HB.out; exact (by repeat (first | with_reducible exact Below.refl _ _ | with_reducible assumption | with_reducible refine Below.drew ?_ | with_reducible refine Below.drewN ?_ _ | with_reducible refine Below.alloc2 ?_ _ | with_reducible refine Below.alloc ?_ (by first | omega | (simp <;> omega)) _ | with_reducible refine Below.setCell ?_ (by first | omega | (simp <;> omega)) _ | with_reducible refine Below.step2 (by with_reducible assumption) ?_ | with_reducible refine Below.step (by with_reducible assumption) ?_ (by first | omega | (simp <;> omega)))))).mono ?_; rintro e w1 ⟨hb1, rfl⟩; have oz1 := hb1.size; (try simp at oz1); (try (rcases (Classical.em (Bk w1 (wr.heap.size + 1) 57 #[.int .i64 0, .int .i64 0, .int .i64 0])) with hq | hq; rotate_left; (focus (refine absurd ?_ hq; (repeat (first | with_reducible assumption | with_reducible exact Bk.at_ (by first | (simp; done) | omega) | with_reducible refine Bk.alloc ?_ _ | with_reducible refine Bk.drew ?_ | with_reducible refine Bk.drewN ?_ _ | with_reducible refine Bk.step (by with_reducible assumption) ?_ (by first | omega | (simp <;> omega)))); done)); have hql := hq.lt; have hqf0 := hq.frozen 0; have hqf1 := hq.frozen 1; have hqf2 := hq.frozen 2; obtain ⟨hqa, hqb, hqc⟩ := hq.threec)))
                    all_goals
                      have hb0 := HB.out
                      go_wp2
                      go_meet
                      exact ⟨_, rfl, (by first | (refine Bk.three_set (a := .int .i64 0) (b := .int .i64 0) (c := .int .i64 0) ?_ _ _ _; exact (by repeat (first | with_reducible assumption | with_reducible exact Bk.at_ (by first | (simp; done) | omega) | with_reducible refine Bk.alloc ?_ _ | with_reducible refine Bk.drew ?_ | with_reducible refine Bk.drewN ?_ _ | with_reducible refine Bk.step (by with_reducible assumption) ?_ (by first | omega | (simp <;> omega))))) | exact (by repeat (first | with_reducible assumption | with_reducible exact Bk.at_ (by first | (simp; done) | omega) | with_reducible refine Bk.alloc ?_ _ | with_reducible refine Bk.drew ?_ | with_reducible refine Bk.drewN ?_ _ | with_reducible refine Bk.step (by with_reducible assumption) ?_ (by first | omega | (simp <;> omega))))), (by repeat (first | with_reducible assumption | with_reducible refine Bk.set3z ?_ _ _ _ | with_reducible refine Bk.other ?_ (by first | omega | (simp <;> omega)) _ | with_reducible exact Bk.at_ (by first | (simp; done) | omega) | with_reducible refine Bk.alloc ?_ _ | with_reducible refine Bk.drew ?_ | with_reducible refine Bk.drewN ?_ _ | with_reducible refine Bk.step (by with_reducible assumption) ?_ (by first | omega | (simp <;> omega)))), (by repeat (first | with_reducible exact Below.refl _ _ | with_reducible assumption | with_reducible refine Below.drew ?_ | with_reducible refine Below.drewN ?_ _ | with_reducible refine Below.alloc2 ?_ _ | with_reducible refine Below.alloc ?_ (by first | omega | (simp <;> omega)) _ | with_reducible refine Below.setCell ?_ (by first | omega | (simp <;> omega)) _ | with_reducible refine Below.step2 (by with_reducible assumption) ?_ | with_reducible refine Below.step (by with_reducible assumption) ?_ (by first | omega | (simp <;> omega))))⟩
                  case rest =>
                    obtain ⟨gg, rfl, kc, kx, hb5⟩ := hcut
                    obtain ⟨u0, u1, u2⟩ := kc.threec
                    obtain ⟨y0, y1, y2, y3⟩ := kx.fourc
                    have HB := Lib.hid hb5
                    clear kc kx hb5
                    by_cases hx0 : xk = 0
                    · have hkz : (xk != 0) = false := by simpa using hx0
                      have hg : ¬ C0 - C1 - C2 + gn ⟨xd, xk, xp, xn⟩ < 0 := by
                        unfold gn
                        rw [if_pos hx0]
                        have := HST.out
                        simp only
                        omega
                      have HE := Lib.hid (HE.out.trans (by simp [mEr, hd, hg] : _ = (0 : Int)))
                      clear hg hx0
                      go_wp2
                      go_roundw
                      case rel => exact ⟨k + 1, by omega, by go_num, Lib.hid (mGo_next HX.out HV.out HE.out), Lib.hid (HON.out (by simp only [okM, B2.out, B3.out, Bool.and_self])), Lib.hid (bdM_step HX.out HBD.out HE.out), HB.out⟩
                      case measure => simp [intOf]; omega
                    · have hkz : (xk != 0) = true := by simpa using hx0
                      have hgn : gn ⟨xd, xk, xp, xn⟩ = -xn := by unfold gn; rw [if_neg hx0]
                      clear hx0
                      by_cases h6 : C0 - C1 - C2 < xn
                      · have HE := Lib.hid (HE.out.trans (by rw [hgn]; simp [mEr, hd, show C0 - C1 - C2 + -xn < 0 by omega] : _ = (22 : Int)))
                        clear hgn
                        go_wp2
                        go_ret
                        refine ⟨HB.out, ret_int ?_⟩
                        rw [← HR.out]
                        exact (mGo_bad (E := 22) HX.out HV.out HE.out (by decide)).symm
                      · have HE := Lib.hid (HE.out.trans (by rw [hgn]; simp [mEr, hd, show ¬ C0 - C1 - C2 + -xn < 0 by omega] : _ = (0 : Int)))
                        clear hgn
                        go_wp2
                        go_roundw
                        case rel => exact ⟨k + 1, by omega, by go_num, Lib.hid (mGo_next HX.out HV.out HE.out), Lib.hid (HON.out (by simp only [okM, B2.out, B3.out, Bool.and_self])), Lib.hid (bdM_step HX.out HBD.out HE.out), HB.out⟩
                        case measure => simp [intOf]; omega))
      · obtain ⟨j, hj⟩ : ∃ j, k = j + 1 := ⟨k - 1, by omega⟩
        obtain ⟨b', o', ⟨yd, yk, yp, yn⟩, e, hbb', hy, p0, p1, p2, p3⟩ := (H.out _ hb).mv (show j < n by omega)
        obtain ⟨rfl, rfl⟩ : b = b' ∧ o = o' := by simpa using e
        have hD0 : D = yd := by rw [← eD, hj, lastD_step hy]
        subst hD0
        dsimp only at p0
        have hw1 : IntKind.i64.wrap ((k : Int) - 1) = (j : Int) := by rw [IntWalk.i64_in _ (by omega)]; omega
        have y0 : (0 : Int) < (k : Int) := by omega
        have y01 : 0 < k := by omega
        have y02 : decide (0 < k) = true := decide_eq_true y01
        have y00 : decide ((0 : Int) < (k : Int)) = true := decide_eq_true y0
        have HKJ := Lib.hid hj
        have z4 : (0 : Int) ≤ (j : Int) := by omega
        have z5 : (j : Int) < (n : Int) := by omega
        clear hx hb e1 e2 e3 e5 eD hI q0 q1 q2 hst bd0 bd1 bd2 hy p1 p2 p3 e hbb' hj hkp
        (
              cases b1
              · (
                          go_wp2_with (first
                            | (go_at_call 31; with_reducible refine (refIsDay_b B1.out _).mono ?_; rintro e w' ⟨rfl, rfl⟩)
                            | (go_at_call 16; with_reducible refine (within_b B2.out _).mono ?_; rintro e w' ⟨rfl, rfl⟩)
                            | (go_at_call 16; with_reducible refine (within_b B3.out _).mono ?_; rintro e w' ⟨rfl, rfl⟩)
                            | (go_at_call 45; refine (HTM.out _ (by have hb0 := HB.out; exact (by repeat (first | with_reducible exact Below.refl _ _ | with_reducible assumption | with_reducible refine Below.drew ?_ | with_reducible refine Below.drewN ?_ _ | with_reducible refine Below.alloc2 ?_ _ | with_reducible refine Below.alloc ?_ (by first | omega | (simp <;> omega)) _ | with_reducible refine Below.setCell ?_ (by first | omega | (simp <;> omega)) _ | with_reducible refine Below.step2 (by with_reducible assumption) ?_ | with_reducible refine Below.step (by with_reducible assumption) ?_ (by first | omega | (simp <;> omega)))))).mono ?_; rintro e w' ⟨rfl, rfl⟩))
                          go_ret
                          have hb0 := HB.out
                          refine ⟨(by repeat (first | with_reducible exact Below.refl _ _ | with_reducible assumption | with_reducible refine Below.drew ?_ | with_reducible refine Below.drewN ?_ _ | with_reducible refine Below.alloc2 ?_ _ | with_reducible refine Below.alloc ?_ (by first | omega | (simp <;> omega)) _ | with_reducible refine Below.setCell ?_ (by first | omega | (simp <;> omega)) _ | with_reducible refine Below.step2 (by with_reducible assumption) ?_ | with_reducible refine Below.step (by with_reducible assumption) ?_ (by first | omega | (simp <;> omega)))), ret_int ?_⟩
                          rw [← HR.out]
                          exact (mGo_bad (E := 2) HX.out HV.out HE.out (by decide)).symm)
              cases b2
              · (
                          go_wp2_with (first
                            | (go_at_call 31; with_reducible refine (refIsDay_b B1.out _).mono ?_; rintro e w' ⟨rfl, rfl⟩)
                            | (go_at_call 16; with_reducible refine (within_b B2.out _).mono ?_; rintro e w' ⟨rfl, rfl⟩)
                            | (go_at_call 16; with_reducible refine (within_b B3.out _).mono ?_; rintro e w' ⟨rfl, rfl⟩)
                            | (go_at_call 45; refine (HTM.out _ (by have hb0 := HB.out; exact (by repeat (first | with_reducible exact Below.refl _ _ | with_reducible assumption | with_reducible refine Below.drew ?_ | with_reducible refine Below.drewN ?_ _ | with_reducible refine Below.alloc2 ?_ _ | with_reducible refine Below.alloc ?_ (by first | omega | (simp <;> omega)) _ | with_reducible refine Below.setCell ?_ (by first | omega | (simp <;> omega)) _ | with_reducible refine Below.step2 (by with_reducible assumption) ?_ | with_reducible refine Below.step (by with_reducible assumption) ?_ (by first | omega | (simp <;> omega)))))).mono ?_; rintro e w' ⟨rfl, rfl⟩))
                          go_ret
                          have hb0 := HB.out
                          refine ⟨(by repeat (first | with_reducible exact Below.refl _ _ | with_reducible assumption | with_reducible refine Below.drew ?_ | with_reducible refine Below.drewN ?_ _ | with_reducible refine Below.alloc2 ?_ _ | with_reducible refine Below.alloc ?_ (by first | omega | (simp <;> omega)) _ | with_reducible refine Below.setCell ?_ (by first | omega | (simp <;> omega)) _ | with_reducible refine Below.step2 (by with_reducible assumption) ?_ | with_reducible refine Below.step (by with_reducible assumption) ?_ (by first | omega | (simp <;> omega)))), ret_int ?_⟩
                          rw [← HR.out]
                          exact (mGo_bad (E := 2) HX.out HV.out HE.out (by decide)).symm)
              cases b3
              · (
                          go_wp2_with (first
                            | (go_at_call 31; with_reducible refine (refIsDay_b B1.out _).mono ?_; rintro e w' ⟨rfl, rfl⟩)
                            | (go_at_call 16; with_reducible refine (within_b B2.out _).mono ?_; rintro e w' ⟨rfl, rfl⟩)
                            | (go_at_call 16; with_reducible refine (within_b B3.out _).mono ?_; rintro e w' ⟨rfl, rfl⟩)
                            | (go_at_call 45; refine (HTM.out _ (by have hb0 := HB.out; exact (by repeat (first | with_reducible exact Below.refl _ _ | with_reducible assumption | with_reducible refine Below.drew ?_ | with_reducible refine Below.drewN ?_ _ | with_reducible refine Below.alloc2 ?_ _ | with_reducible refine Below.alloc ?_ (by first | omega | (simp <;> omega)) _ | with_reducible refine Below.setCell ?_ (by first | omega | (simp <;> omega)) _ | with_reducible refine Below.step2 (by with_reducible assumption) ?_ | with_reducible refine Below.step (by with_reducible assumption) ?_ (by first | omega | (simp <;> omega)))))).mono ?_; rintro e w' ⟨rfl, rfl⟩))
                          go_ret
                          have hb0 := HB.out
                          refine ⟨(by repeat (first | with_reducible exact Below.refl _ _ | with_reducible assumption | with_reducible refine Below.drew ?_ | with_reducible refine Below.drewN ?_ _ | with_reducible refine Below.alloc2 ?_ _ | with_reducible refine Below.alloc ?_ (by first | omega | (simp <;> omega)) _ | with_reducible refine Below.setCell ?_ (by first | omega | (simp <;> omega)) _ | with_reducible refine Below.step2 (by with_reducible assumption) ?_ | with_reducible refine Below.step (by with_reducible assumption) ?_ (by first | omega | (simp <;> omega)))), ret_int ?_⟩
                          rw [← HR.out]
                          exact (mGo_bad (E := 2) HX.out HV.out HE.out (by decide)).symm)
              have hday := dayB_iff.1 B1.out
              by_cases hd : xd < D
              · (
                          have HE := Lib.hid (HE.out.trans (by simp [mEr, hd] : _ = (10 : Int)))
                          go_wp2_with (first
                            | (go_at_call 31; with_reducible refine (refIsDay_b B1.out _).mono ?_; rintro e w' ⟨rfl, rfl⟩)
                            | (go_at_call 16; with_reducible refine (within_b B2.out _).mono ?_; rintro e w' ⟨rfl, rfl⟩)
                            | (go_at_call 16; with_reducible refine (within_b B3.out _).mono ?_; rintro e w' ⟨rfl, rfl⟩)
                            | (go_at_call 45; refine (HTM.out _ (by have hb0 := HB.out; exact (by repeat (first | with_reducible exact Below.refl _ _ | with_reducible assumption | with_reducible refine Below.drew ?_ | with_reducible refine Below.drewN ?_ _ | with_reducible refine Below.alloc2 ?_ _ | with_reducible refine Below.alloc ?_ (by first | omega | (simp <;> omega)) _ | with_reducible refine Below.setCell ?_ (by first | omega | (simp <;> omega)) _ | with_reducible refine Below.step2 (by with_reducible assumption) ?_ | with_reducible refine Below.step (by with_reducible assumption) ?_ (by first | omega | (simp <;> omega)))))).mono ?_; rintro e w' ⟨rfl, rfl⟩))
                          go_quiet (fail)
                          go_wp2_with (first
                            | (go_at_call 31; with_reducible refine (refIsDay_b B1.out _).mono ?_; rintro e w' ⟨rfl, rfl⟩)
                            | (go_at_call 16; with_reducible refine (within_b B2.out _).mono ?_; rintro e w' ⟨rfl, rfl⟩)
                            | (go_at_call 16; with_reducible refine (within_b B3.out _).mono ?_; rintro e w' ⟨rfl, rfl⟩)
                            | (go_at_call 45; refine (HTM.out _ (by have hb0 := HB.out; exact (by repeat (first | with_reducible exact Below.refl _ _ | with_reducible assumption | with_reducible refine Below.drew ?_ | with_reducible refine Below.drewN ?_ _ | with_reducible refine Below.alloc2 ?_ _ | with_reducible refine Below.alloc ?_ (by first | omega | (simp <;> omega)) _ | with_reducible refine Below.setCell ?_ (by first | omega | (simp <;> omega)) _ | with_reducible refine Below.step2 (by with_reducible assumption) ?_ | with_reducible refine Below.step (by with_reducible assumption) ?_ (by first | omega | (simp <;> omega)))))).mono ?_; rintro e w' ⟨rfl, rfl⟩))
                          go_ret
                          have hb0 := HB.out
                          refine ⟨(by repeat (first | with_reducible exact Below.refl _ _ | with_reducible assumption | with_reducible refine Below.drew ?_ | with_reducible refine Below.drewN ?_ _ | with_reducible refine Below.alloc2 ?_ _ | with_reducible refine Below.alloc ?_ (by first | omega | (simp <;> omega)) _ | with_reducible refine Below.setCell ?_ (by first | omega | (simp <;> omega)) _ | with_reducible refine Below.step2 (by with_reducible assumption) ?_ | with_reducible refine Below.step (by with_reducible assumption) ?_ (by first | omega | (simp <;> omega)))), ret_int ?_⟩
                          rw [← HR.out]
                          exact (mGo_bad (E := 10) HX.out HV.out HE.out (by decide)).symm)
              cases b5
              · have hI0 : I < 0 := by have := hIv; simp at this; omega
                have HE := Lib.hid (HE.out.trans (by simp [mEr, hd] : _ = (6 : Int)))
                (
                  go_wp2_with (first
                    | (go_at_call 31; with_reducible refine (refIsDay_b B1.out _).mono ?_; rintro e w' ⟨rfl, rfl⟩)
                    | (go_at_call 16; with_reducible refine (within_b B2.out _).mono ?_; rintro e w' ⟨rfl, rfl⟩)
                    | (go_at_call 16; with_reducible refine (within_b B3.out _).mono ?_; rintro e w' ⟨rfl, rfl⟩)
                    | (go_at_call 45; refine (HTM.out _ (by have hb0 := HB.out; exact (by repeat (first | with_reducible exact Below.refl _ _ | with_reducible assumption | with_reducible refine Below.drew ?_ | with_reducible refine Below.drewN ?_ _ | with_reducible refine Below.alloc2 ?_ _ | with_reducible refine Below.alloc ?_ (by first | omega | (simp <;> omega)) _ | with_reducible refine Below.setCell ?_ (by first | omega | (simp <;> omega)) _ | with_reducible refine Below.step2 (by with_reducible assumption) ?_ | with_reducible refine Below.step (by with_reducible assumption) ?_ (by first | omega | (simp <;> omega)))))).mono ?_; rintro e w' ⟨rfl, rfl⟩))
                  go_quiet (fail)
                  go_wp2_with (first
                    | (go_at_call 31; with_reducible refine (refIsDay_b B1.out _).mono ?_; rintro e w' ⟨rfl, rfl⟩)
                    | (go_at_call 16; with_reducible refine (within_b B2.out _).mono ?_; rintro e w' ⟨rfl, rfl⟩)
                    | (go_at_call 16; with_reducible refine (within_b B3.out _).mono ?_; rintro e w' ⟨rfl, rfl⟩)
                    | (go_at_call 45; refine (HTM.out _ (by have hb0 := HB.out; exact (by repeat (first | with_reducible exact Below.refl _ _ | with_reducible assumption | with_reducible refine Below.drew ?_ | with_reducible refine Below.drewN ?_ _ | with_reducible refine Below.alloc2 ?_ _ | with_reducible refine Below.alloc ?_ (by first | omega | (simp <;> omega)) _ | with_reducible refine Below.setCell ?_ (by first | omega | (simp <;> omega)) _ | with_reducible refine Below.step2 (by with_reducible assumption) ?_ | with_reducible refine Below.step (by with_reducible assumption) ?_ (by first | omega | (simp <;> omega)))))).mono ?_; rintro e w' ⟨rfl, rfl⟩))
                  go_ret
                  have hb0 := HB.out
                  refine ⟨(by repeat (first | with_reducible exact Below.refl _ _ | with_reducible assumption | with_reducible refine Below.drew ?_ | with_reducible refine Below.drewN ?_ _ | with_reducible refine Below.alloc2 ?_ _ | with_reducible refine Below.alloc ?_ (by first | omega | (simp <;> omega)) _ | with_reducible refine Below.setCell ?_ (by first | omega | (simp <;> omega)) _ | with_reducible refine Below.step2 (by with_reducible assumption) ?_ | with_reducible refine Below.step (by with_reducible assumption) ?_ (by first | omega | (simp <;> omega)))), ret_int ?_⟩
                  rw [← HR.out]
                  exact (mGo_bad (E := 6) HX.out HV.out HE.out (by decide)).symm)
              have hI0 : ¬ I < 0 := by have := hIv; simp at this; omega
              have hkb : 0 ≤ xk ∧ xk ≤ 2 := inR_iff.1 B2.out
              have hnb : 1 ≤ xn ∧ xn ≤ 100000 := inR_iff.1 B3.out
              (
                  go_wp2_with (first
                    | (go_at_call 31; with_reducible refine (refIsDay_b B1.out _).mono ?_; rintro e w' ⟨rfl, rfl⟩)
                    | (go_at_call 16; with_reducible refine (within_b B2.out _).mono ?_; rintro e w' ⟨rfl, rfl⟩)
                    | (go_at_call 16; with_reducible refine (within_b B3.out _).mono ?_; rintro e w' ⟨rfl, rfl⟩)
                    | (go_at_call 45; refine (HTM.out _ (by have hb0 := HB.out; exact (by repeat (first | with_reducible exact Below.refl _ _ | with_reducible assumption | with_reducible refine Below.drew ?_ | with_reducible refine Below.drewN ?_ _ | with_reducible refine Below.alloc2 ?_ _ | with_reducible refine Below.alloc ?_ (by first | omega | (simp <;> omega)) _ | with_reducible refine Below.setCell ?_ (by first | omega | (simp <;> omega)) _ | with_reducible refine Below.step2 (by with_reducible assumption) ?_ | with_reducible refine Below.step (by with_reducible assumption) ?_ (by first | omega | (simp <;> omega)))))).mono ?_; rintro e w' ⟨rfl, rfl⟩))
                  go_quiet (fail)
                  go_upto_region 13 with (first
                    | (go_at_call 31; with_reducible refine (refIsDay_b B1.out _).mono ?_; rintro e w' ⟨rfl, rfl⟩)
                    | (go_at_call 16; with_reducible refine (within_b B2.out _).mono ?_; rintro e w' ⟨rfl, rfl⟩)
                    | (go_at_call 16; with_reducible refine (within_b B3.out _).mono ?_; rintro e w' ⟨rfl, rfl⟩)
                    | (go_at_call 45; refine (HTM.out _ (by have hb0 := HB.out; exact (by repeat (first | with_reducible exact Below.refl _ _ | with_reducible assumption | with_reducible refine Below.drew ?_ | with_reducible refine Below.drewN ?_ _ | with_reducible refine Below.alloc2 ?_ _ | with_reducible refine Below.alloc ?_ (by first | omega | (simp <;> omega)) _ | with_reducible refine Below.setCell ?_ (by first | omega | (simp <;> omega)) _ | with_reducible refine Below.step2 (by with_reducible assumption) ?_ | with_reducible refine Below.step (by with_reducible assumption) ?_ (by first | omega | (simp <;> omega)))))).mono ?_; rintro e w' ⟨rfl, rfl⟩))
                  go_cut [7] (fun P wx => ∃ gg, P = .pointer (some ⟨gg, 0, none⟩) ∧ Bk wx gg 57 #[.int .i64 C0, .int .i64 C1, .int .i64 C2] ∧ Bk wx wr.heap.size 90 #[.int .i64 xd, .int .i64 xk, .string xp, .int .i64 xn] ∧ Below w.heap.size w wx)
                  case first =>
                    go_region_with (go_at_call 29; refine (CN.out _ (by have hb0 := HB.out; exact (by repeat (first | with_reducible exact Below.refl _ _ | with_reducible assumption | with_reducible refine Below.drew ?_ | with_reducible refine Below.drewN ?_ _ | with_reducible refine Below.alloc2 ?_ _ | with_reducible refine Below.alloc ?_ (by first | omega | (simp <;> omega)) _ | with_reducible refine Below.setCell ?_ (by first | omega | (simp <;> omega)) _ | with_reducible refine Below.step2 (by with_reducible assumption) ?_ | with_reducible refine Below.step (by with_reducible assumption) ?_ (by first | omega | (simp <;> omega)))))).mono ?_; rintro e w1 ⟨hb1, rfl⟩; have oz1 := hb1.size; (try simp at oz1); (try (rcases (Classical.em (Bk w1 (wr.heap.size + 1) 57 #[.int .i64 0, .int .i64 0, .int .i64 0])) with hq | hq; rotate_left; (focus (refine absurd ?_ hq; (repeat (first | with_reducible assumption | with_reducible exact Bk.at_ (by first | (simp; done) | omega) | with_reducible refine Bk.alloc ?_ _ | with_reducible refine Bk.drew ?_ | with_reducible refine Bk.drewN ?_ _ | with_reducible refine Bk.step (by with_reducible assumption) ?_ (by first | omega | (simp <;> omega)))); done)); have hql := hq.lt; have hqf0 := hq.frozen 0; have hqf1 := hq.frozen 1; have hqf2 := hq.frozen 2; obtain ⟨hqa, hqb, hqc⟩ := hq.threec)))
                    all_goals
                      have hb0 := HB.out
                      go_wp2
                      go_meet
                      exact ⟨_, rfl, (by first | (refine Bk.three_set (a := .int .i64 0) (b := .int .i64 0) (c := .int .i64 0) ?_ _ _ _; exact (by repeat (first | with_reducible assumption | with_reducible exact Bk.at_ (by first | (simp; done) | omega) | with_reducible refine Bk.alloc ?_ _ | with_reducible refine Bk.drew ?_ | with_reducible refine Bk.drewN ?_ _ | with_reducible refine Bk.step (by with_reducible assumption) ?_ (by first | omega | (simp <;> omega))))) | exact (by repeat (first | with_reducible assumption | with_reducible exact Bk.at_ (by first | (simp; done) | omega) | with_reducible refine Bk.alloc ?_ _ | with_reducible refine Bk.drew ?_ | with_reducible refine Bk.drewN ?_ _ | with_reducible refine Bk.step (by with_reducible assumption) ?_ (by first | omega | (simp <;> omega))))), (by repeat (first | with_reducible assumption | with_reducible refine Bk.set3z ?_ _ _ _ | with_reducible refine Bk.other ?_ (by first | omega | (simp <;> omega)) _ | with_reducible exact Bk.at_ (by first | (simp; done) | omega) | with_reducible refine Bk.alloc ?_ _ | with_reducible refine Bk.drew ?_ | with_reducible refine Bk.drewN ?_ _ | with_reducible refine Bk.step (by with_reducible assumption) ?_ (by first | omega | (simp <;> omega)))), (by repeat (first | with_reducible exact Below.refl _ _ | with_reducible assumption | with_reducible refine Below.drew ?_ | with_reducible refine Below.drewN ?_ _ | with_reducible refine Below.alloc2 ?_ _ | with_reducible refine Below.alloc ?_ (by first | omega | (simp <;> omega)) _ | with_reducible refine Below.setCell ?_ (by first | omega | (simp <;> omega)) _ | with_reducible refine Below.step2 (by with_reducible assumption) ?_ | with_reducible refine Below.step (by with_reducible assumption) ?_ (by first | omega | (simp <;> omega))))⟩
                  case rest =>
                    obtain ⟨gg, rfl, kc, kx, hb5⟩ := hcut
                    obtain ⟨u0, u1, u2⟩ := kc.threec
                    obtain ⟨y0, y1, y2, y3⟩ := kx.fourc
                    have HB := Lib.hid hb5
                    clear kc kx hb5
                    by_cases hx0 : xk = 0
                    · have hkz : (xk != 0) = false := by simpa using hx0
                      have hg : ¬ C0 - C1 - C2 + gn ⟨xd, xk, xp, xn⟩ < 0 := by
                        unfold gn
                        rw [if_pos hx0]
                        have := HST.out
                        simp only
                        omega
                      have HE := Lib.hid (HE.out.trans (by simp [mEr, hd, hg] : _ = (0 : Int)))
                      clear hg hx0
                      go_wp2
                      go_roundw
                      case rel => exact ⟨k + 1, by omega, by go_num, Lib.hid (mGo_next HX.out HV.out HE.out), Lib.hid (HON.out (by simp only [okM, B2.out, B3.out, Bool.and_self])), Lib.hid (bdM_step HX.out HBD.out HE.out), HB.out⟩
                      case measure => simp [intOf]; omega
                    · have hkz : (xk != 0) = true := by simpa using hx0
                      have hgn : gn ⟨xd, xk, xp, xn⟩ = -xn := by unfold gn; rw [if_neg hx0]
                      clear hx0
                      by_cases h6 : C0 - C1 - C2 < xn
                      · have HE := Lib.hid (HE.out.trans (by rw [hgn]; simp [mEr, hd, show C0 - C1 - C2 + -xn < 0 by omega] : _ = (22 : Int)))
                        clear hgn
                        go_wp2
                        go_ret
                        refine ⟨HB.out, ret_int ?_⟩
                        rw [← HR.out]
                        exact (mGo_bad (E := 22) HX.out HV.out HE.out (by decide)).symm
                      · have HE := Lib.hid (HE.out.trans (by rw [hgn]; simp [mEr, hd, show ¬ C0 - C1 - C2 + -xn < 0 by omega] : _ = (0 : Int)))
                        clear hgn
                        go_wp2
                        go_roundw
                        case rel => exact ⟨k + 1, by omega, by go_num, Lib.hid (mGo_next HX.out HV.out HE.out), Lib.hid (HON.out (by simp only [okM, B2.out, B3.out, Bool.and_self])), Lib.hid (bdM_step HX.out HBD.out HE.out), HB.out⟩
                        case measure => simp [intOf]; omega))
    · go_wp2
      go_ret
      refine ⟨HB.out, ret_int ?_⟩
      rw [← HR.out]
      exact (mGo_end (by rw [HLEN.out]; omega) HV.out).symm

end Go.Proofs.Ytbeijeblbchglaa
