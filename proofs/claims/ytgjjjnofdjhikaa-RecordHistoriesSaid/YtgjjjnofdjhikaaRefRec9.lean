/- Chapter 9, walks: CheckRecord of the reference. -/
import Derived.Test.YtgjjjnofdjhikaaOpened9
import Derived.Test.YtgjjjnofdjhikaaPlain9
import Derived.Test.YtgjjjnofdjhikaaCheckRec9
namespace Go.Proofs.Ytgjjjnofdjhikaa
open Go.RowKit

theorem nameB_full {p : ByteArray} (h : nameB p = true) : emptyS p = false := by
  unfold nameB at h
  have h1 := (of_decide_eq_true h).1
  cases he : emptyS p
  · rfl
  · have := emptyS_size.1 he
    omega
set_option maxRecDepth 100000 in
set_option maxHeartbeats 32000000 in
theorem refCheckRecord_any (A : Option Addr) (n c : Nat) (l : List Ev) (w : World) (h : Rws Ev.cs 6 w w.heap.size A n c l) (hs : ∀ x ∈ l, x.p.size ≤ 30) :
    Calls Try.prog 11 #[.slice A n c] w fun e w' => Below w.heap.size w w' ∧ e = .returned (.int .i64 (recErr l)) := by
  have hcap := h.cap
  have hmax := h.max
  have HLEN := Lib.hid h.len
  have HS := Lib.hid hs
  have H : Hid (∀ w', Below w.heap.size w w' → Rws Ev.cs 6 w' w.heap.size A n c l) := fun w' hb => h.below hb (Nat.le_refl _) (Nat.le_refl _)
  have H3 : Hid (∀ w', Below w.heap.size w w' → Rws Ev.cs 6 w' w'.heap.size A n c l) := fun w' hb => h.below hb (Nat.le_refl _) hb.size
  obtain ⟨R, hR⟩ : ∃ R, recErr l = R := ⟨_, rfl⟩
  have HR0 := Lib.hid hR
  rw [hR]
  clear hR h hs
  by_cases hbig : 400 < n
  · obtain rfl : R = 8 := by rw [← HR0.out, recErr, HLEN.out, if_pos hbig]
    go_enter Try.func11, Try.ntmps11
    go_wp2
    go_ret
    exact ⟨(by repeat (first | with_reducible exact Below.refl _ _ | with_reducible assumption | with_reducible refine Below.drew ?_ | with_reducible refine Below.drewN ?_ _ | with_reducible refine Below.alloc2 ?_ _ | with_reducible refine Below.alloc ?_ (by first | omega | (simp <;> omega)) _ | with_reducible refine Below.setCell ?_ (by first | omega | (simp <;> omega)) _ | with_reducible refine Below.step2 (by with_reducible assumption) ?_ | with_reducible refine Below.step (by with_reducible assumption) ?_ (by first | omega | (simp <;> omega)))), rfl⟩
  have HR : Hid (rGo [] l = R) := Lib.hid (by rw [← HR0.out, recErr, HLEN.out, if_neg hbig])
  go_enter Try.func11, Try.ntmps11
  go_wp2
  go_loopw [3, 4, 5] (fun i _ _ wr => ∃ k : Nat, k ≤ n ∧ i = .int .i64 k ∧ Hid (rGo [] l = rGo (l.take k) (l.drop k)) ∧ Below w.heap.size w wr) (fun i _ _ _ => n - (intOf i).toNat)
  case atStart => exact ⟨0, Nat.zero_le _, rfl, Lib.hid rfl, (by repeat (first | with_reducible exact Below.refl _ _ | with_reducible assumption | with_reducible refine Below.drew ?_ | with_reducible refine Below.drewN ?_ _ | with_reducible refine Below.alloc2 ?_ _ | with_reducible refine Below.alloc ?_ (by first | omega | (simp <;> omega)) _ | with_reducible refine Below.setCell ?_ (by first | omega | (simp <;> omega)) _ | with_reducible refine Below.step2 (by with_reducible assumption) ?_ | with_reducible refine Below.step (by with_reducible assumption) ?_ (by first | omega | (simp <;> omega))))⟩
  case round =>
    obtain ⟨k, hk, rfl, HV, hb⟩ := hrel
    have HB := Lib.hid hb
    have ow := hb.size
    by_cases hlt : k < n
    · obtain ⟨b, o, ⟨xd, xk, xp, xn, xs, xg⟩, rfl, hbb, hx, c0, c1, c2, c3, c4, c5⟩ := (H.out _ hb).ev hlt
      dsimp only at c0 c1 c2 c3 c4 c5
      have HX := Lib.hid hx
      have hxp : xp.size ≤ 30 := HS.out _ (List.mem_of_getElem? hx)
      have ob : b < wr.heap.size := by omega
      obtain ⟨b1, e1⟩ : ∃ b, dayB xd = b := ⟨_, rfl⟩
      obtain ⟨b2, e2⟩ : ∃ b, inR 0 6 xk = b := ⟨_, rfl⟩
      obtain ⟨b3, e3⟩ : ∃ b, inR 0 9999 xn = b := ⟨_, rfl⟩
      obtain ⟨b6, e6⟩ : ∃ b, plB xk xn xs xg = b := ⟨_, rfl⟩
      obtain ⟨v3, ev3⟩ : ∃ b, (xk == 3) = b := ⟨_, rfl⟩
      obtain ⟨ve, eve⟩ : ∃ b, xp.toList.isEmpty = b := ⟨_, rfl⟩
      have eve2 : emptyS xp = ve := by rw [← eve]; simp [emptyS]
      obtain ⟨nm, enm⟩ : ∃ b, nameB xp = b := ⟨_, rfl⟩
      obtain ⟨D, eD⟩ : ∃ D, lastE (l.take k) = D := ⟨_, rfl⟩
      obtain ⟨v, ev⟩ : ∃ v, (opn (l.take k) (xp, xn)).isSome = v := ⟨_, rfl⟩
      have hfull : nm = true → ve = false := fun h => by rw [← eve2]; exact nameB_full (by rw [enm]; exact h)
      obtain ⟨b5, e5⟩ : ∃ b, platB xk xp = b := ⟨_, rfl⟩
      have hpt : (if v3 then ve else nm) = b5 := by
        rw [← e5, ← ev3, ← eve2, ← enm]
        unfold platB
        by_cases h3 : xk = 3 <;> simp [h3]
      have B1 := Lib.hid e1
      have B2 := Lib.hid e2
      have B3 := Lib.hid e3
      have BN := Lib.hid enm
      have BP := Lib.hid e6
      have HE : Hid (eE (l.take k) ⟨xd, xk, xp, xn, xs, xg⟩ = eEr b1 b2 b3 (decide (xd < D)) b5 b6 (decide (xk = 4) && v) (decide (xk = 5) && !v)) := Lib.hid (by simp only [eE, e1, e2, e3, e5, e6, eD, ev])
      have HOL : Hid ((olist (l.take k) xp).contains xn = v) := Lib.hid (by rw [olist_has, ← opn_some]; exact ev)
      have OPN : Hid (∀ W, Below w.heap.size w W → Calls Try.prog 41 #[.slice (some ⟨b, o, none⟩) k c, .string xp, .bool false, .bool true] W fun e w' => Below W.heap.size W w' ∧ ∃ A' m c', e = .returned (.slice A' m c') ∧ Nums w' w'.heap.size A' m c' (olist (l.take k) xp)) := Lib.hid fun W hW =>
        opened_any _ _ _ (l.take k) xp W ((H3.out W hW).take Ev.wide (show k ≤ n by omega)) (by omega)
      have z1 : (0 : Int) ≤ (k : Int) := by omega
      have z2 : (k : Int) < (n : Int) := by omega
      have z3 : (k : Int) ≤ (c : Int) := by omega
      rcases Nat.eq_zero_or_pos k with hk0 | hkp
      · have hD0 : D = 0 := by rw [← eD, hk0]; exact lastE_zero
        have hz0 : decide ((0 : Int) < (k : Int)) = false := decide_eq_false (by omega)
        have hz : ¬ (0 : Int) < (k : Int) := by omega
        have hz1 : ¬ 0 < k := by omega
        have hz2 : decide (0 < k) = false := decide_eq_false hz1
        have HKZ := Lib.hid hk0
        clear hk0 hx hb e1 e2 e3 e5 e6 eD enm ev eve2
        (
              cases b1
              · (
                          go_wp2_with (first
                            | (go_at_call 22; with_reducible refine (refIsDay_b B1.out _).mono ?_; rintro e w' ⟨rfl, rfl⟩)
                            | (go_at_call 37; with_reducible refine (within_b B2.out _).mono ?_; rintro e w' ⟨rfl, rfl⟩)
                            | (go_at_call 37; with_reducible refine (within_b B3.out _).mono ?_; rintro e w' ⟨rfl, rfl⟩)
                            | (go_at_call 38; with_reducible refine (refName_any xp _ (by omega)).mono ?_; rw [BN.out]; rintro e w' ⟨rfl, rfl⟩)
                            | (go_at_call 39; with_reducible refine (plain_any xd xk xn xp xs xg _ B2.out).mono ?_; rw [BP.out]; rintro e w1 ⟨hb1, rfl⟩; have hk1 : Bk w1 wr.heap.size 24 #[.int .i64 xd, .int .i64 xk, .string xp, .int .i64 xn, .bool xs, .bool xg] := (by refine Bk.below (D := _) ?_ hb1 (by simp); exact (by repeat (first | with_reducible assumption | with_reducible exact Bk.at_ (by first | (simp; done) | omega) | with_reducible refine Bk.alloc ?_ _ | with_reducible refine Bk.drew ?_ | with_reducible refine Bk.drewN ?_ _ | with_reducible refine Bk.step (by with_reducible assumption) ?_ (by first | omega | (simp <;> omega))))); have hbw : Below w.heap.size w w1 := (by have hb0 := HB.out; refine Below.trans ?_ (hb1.mono ?_); (exact (by repeat (first | with_reducible exact Below.refl _ _ | with_reducible assumption | with_reducible refine Below.drew ?_ | with_reducible refine Below.drewN ?_ _ | with_reducible refine Below.alloc2 ?_ _ | with_reducible refine Below.alloc ?_ (by first | omega | (simp <;> omega)) _ | with_reducible refine Below.setCell ?_ (by first | omega | (simp <;> omega)) _ | with_reducible refine Below.step2 (by with_reducible assumption) ?_ | with_reducible refine Below.step (by with_reducible assumption) ?_ (by first | omega | (simp <;> omega))))); (simp; omega)); have HB1 := Lib.hid hbw; have HK1 := Lib.hid hk1; have ol1 := hk1.lt; obtain ⟨q0, q1, q2, q3, q4, q5⟩ := hk1.sixc; clear hk1 hb1 hbw))
                          go_ret
                          refine ⟨by have hb0 := HB.out; exact (by repeat (first | with_reducible exact Below.refl _ _ | with_reducible assumption | with_reducible refine Below.drew ?_ | with_reducible refine Below.drewN ?_ _ | with_reducible refine Below.alloc2 ?_ _ | with_reducible refine Below.alloc ?_ (by first | omega | (simp <;> omega)) _ | with_reducible refine Below.setCell ?_ (by first | omega | (simp <;> omega)) _ | with_reducible refine Below.step2 (by with_reducible assumption) ?_ | with_reducible refine Below.step (by with_reducible assumption) ?_ (by first | omega | (simp <;> omega)))), ret_int ?_⟩
                          rw [← HR.out]
                          exact (rGo_bad (E := 2) HX.out HV.out HE.out (by decide)).symm)
              cases b2
              · (
                          go_wp2_with (first
                            | (go_at_call 22; with_reducible refine (refIsDay_b B1.out _).mono ?_; rintro e w' ⟨rfl, rfl⟩)
                            | (go_at_call 37; with_reducible refine (within_b B2.out _).mono ?_; rintro e w' ⟨rfl, rfl⟩)
                            | (go_at_call 37; with_reducible refine (within_b B3.out _).mono ?_; rintro e w' ⟨rfl, rfl⟩)
                            | (go_at_call 38; with_reducible refine (refName_any xp _ (by omega)).mono ?_; rw [BN.out]; rintro e w' ⟨rfl, rfl⟩)
                            | (go_at_call 39; with_reducible refine (plain_any xd xk xn xp xs xg _ B2.out).mono ?_; rw [BP.out]; rintro e w1 ⟨hb1, rfl⟩; have hk1 : Bk w1 wr.heap.size 24 #[.int .i64 xd, .int .i64 xk, .string xp, .int .i64 xn, .bool xs, .bool xg] := (by refine Bk.below (D := _) ?_ hb1 (by simp); exact (by repeat (first | with_reducible assumption | with_reducible exact Bk.at_ (by first | (simp; done) | omega) | with_reducible refine Bk.alloc ?_ _ | with_reducible refine Bk.drew ?_ | with_reducible refine Bk.drewN ?_ _ | with_reducible refine Bk.step (by with_reducible assumption) ?_ (by first | omega | (simp <;> omega))))); have hbw : Below w.heap.size w w1 := (by have hb0 := HB.out; refine Below.trans ?_ (hb1.mono ?_); (exact (by repeat (first | with_reducible exact Below.refl _ _ | with_reducible assumption | with_reducible refine Below.drew ?_ | with_reducible refine Below.drewN ?_ _ | with_reducible refine Below.alloc2 ?_ _ | with_reducible refine Below.alloc ?_ (by first | omega | (simp <;> omega)) _ | with_reducible refine Below.setCell ?_ (by first | omega | (simp <;> omega)) _ | with_reducible refine Below.step2 (by with_reducible assumption) ?_ | with_reducible refine Below.step (by with_reducible assumption) ?_ (by first | omega | (simp <;> omega))))); (simp; omega)); have HB1 := Lib.hid hbw; have HK1 := Lib.hid hk1; have ol1 := hk1.lt; obtain ⟨q0, q1, q2, q3, q4, q5⟩ := hk1.sixc; clear hk1 hb1 hbw))
                          go_ret
                          refine ⟨by have hb0 := HB.out; exact (by repeat (first | with_reducible exact Below.refl _ _ | with_reducible assumption | with_reducible refine Below.drew ?_ | with_reducible refine Below.drewN ?_ _ | with_reducible refine Below.alloc2 ?_ _ | with_reducible refine Below.alloc ?_ (by first | omega | (simp <;> omega)) _ | with_reducible refine Below.setCell ?_ (by first | omega | (simp <;> omega)) _ | with_reducible refine Below.step2 (by with_reducible assumption) ?_ | with_reducible refine Below.step (by with_reducible assumption) ?_ (by first | omega | (simp <;> omega)))), ret_int ?_⟩
                          rw [← HR.out]
                          exact (rGo_bad (E := 2) HX.out HV.out HE.out (by decide)).symm)
              cases b3
              · (
                          go_wp2_with (first
                            | (go_at_call 22; with_reducible refine (refIsDay_b B1.out _).mono ?_; rintro e w' ⟨rfl, rfl⟩)
                            | (go_at_call 37; with_reducible refine (within_b B2.out _).mono ?_; rintro e w' ⟨rfl, rfl⟩)
                            | (go_at_call 37; with_reducible refine (within_b B3.out _).mono ?_; rintro e w' ⟨rfl, rfl⟩)
                            | (go_at_call 38; with_reducible refine (refName_any xp _ (by omega)).mono ?_; rw [BN.out]; rintro e w' ⟨rfl, rfl⟩)
                            | (go_at_call 39; with_reducible refine (plain_any xd xk xn xp xs xg _ B2.out).mono ?_; rw [BP.out]; rintro e w1 ⟨hb1, rfl⟩; have hk1 : Bk w1 wr.heap.size 24 #[.int .i64 xd, .int .i64 xk, .string xp, .int .i64 xn, .bool xs, .bool xg] := (by refine Bk.below (D := _) ?_ hb1 (by simp); exact (by repeat (first | with_reducible assumption | with_reducible exact Bk.at_ (by first | (simp; done) | omega) | with_reducible refine Bk.alloc ?_ _ | with_reducible refine Bk.drew ?_ | with_reducible refine Bk.drewN ?_ _ | with_reducible refine Bk.step (by with_reducible assumption) ?_ (by first | omega | (simp <;> omega))))); have hbw : Below w.heap.size w w1 := (by have hb0 := HB.out; refine Below.trans ?_ (hb1.mono ?_); (exact (by repeat (first | with_reducible exact Below.refl _ _ | with_reducible assumption | with_reducible refine Below.drew ?_ | with_reducible refine Below.drewN ?_ _ | with_reducible refine Below.alloc2 ?_ _ | with_reducible refine Below.alloc ?_ (by first | omega | (simp <;> omega)) _ | with_reducible refine Below.setCell ?_ (by first | omega | (simp <;> omega)) _ | with_reducible refine Below.step2 (by with_reducible assumption) ?_ | with_reducible refine Below.step (by with_reducible assumption) ?_ (by first | omega | (simp <;> omega))))); (simp; omega)); have HB1 := Lib.hid hbw; have HK1 := Lib.hid hk1; have ol1 := hk1.lt; obtain ⟨q0, q1, q2, q3, q4, q5⟩ := hk1.sixc; clear hk1 hb1 hbw))
                          go_ret
                          refine ⟨by have hb0 := HB.out; exact (by repeat (first | with_reducible exact Below.refl _ _ | with_reducible assumption | with_reducible refine Below.drew ?_ | with_reducible refine Below.drewN ?_ _ | with_reducible refine Below.alloc2 ?_ _ | with_reducible refine Below.alloc ?_ (by first | omega | (simp <;> omega)) _ | with_reducible refine Below.setCell ?_ (by first | omega | (simp <;> omega)) _ | with_reducible refine Below.step2 (by with_reducible assumption) ?_ | with_reducible refine Below.step (by with_reducible assumption) ?_ (by first | omega | (simp <;> omega)))), ret_int ?_⟩
                          rw [← HR.out]
                          exact (rGo_bad (E := 2) HX.out HV.out HE.out (by decide)).symm)
              have hday := dayB_iff.1 B1.out
              by_cases hd : xd < D
              · (exfalso; omega)
              cases b5
              · have HE := Lib.hid (HE.out.trans (by simp [eEr, hd] : _ = (4 : Int)))
                cases v3 <;> cases ve <;> cases nm
                all_goals first
                  | (exfalso; revert hpt; simp; done)
                  | skip
                all_goals (
                  go_wp2_with (first
                    | (go_at_call 22; with_reducible refine (refIsDay_b B1.out _).mono ?_; rintro e w' ⟨rfl, rfl⟩)
                    | (go_at_call 37; with_reducible refine (within_b B2.out _).mono ?_; rintro e w' ⟨rfl, rfl⟩)
                    | (go_at_call 37; with_reducible refine (within_b B3.out _).mono ?_; rintro e w' ⟨rfl, rfl⟩)
                    | (go_at_call 38; with_reducible refine (refName_any xp _ (by omega)).mono ?_; rw [BN.out]; rintro e w' ⟨rfl, rfl⟩)
                    | (go_at_call 39; with_reducible refine (plain_any xd xk xn xp xs xg _ B2.out).mono ?_; rw [BP.out]; rintro e w1 ⟨hb1, rfl⟩; have hk1 : Bk w1 wr.heap.size 24 #[.int .i64 xd, .int .i64 xk, .string xp, .int .i64 xn, .bool xs, .bool xg] := (by refine Bk.below (D := _) ?_ hb1 (by simp); exact (by repeat (first | with_reducible assumption | with_reducible exact Bk.at_ (by first | (simp; done) | omega) | with_reducible refine Bk.alloc ?_ _ | with_reducible refine Bk.drew ?_ | with_reducible refine Bk.drewN ?_ _ | with_reducible refine Bk.step (by with_reducible assumption) ?_ (by first | omega | (simp <;> omega))))); have hbw : Below w.heap.size w w1 := (by have hb0 := HB.out; refine Below.trans ?_ (hb1.mono ?_); (exact (by repeat (first | with_reducible exact Below.refl _ _ | with_reducible assumption | with_reducible refine Below.drew ?_ | with_reducible refine Below.drewN ?_ _ | with_reducible refine Below.alloc2 ?_ _ | with_reducible refine Below.alloc ?_ (by first | omega | (simp <;> omega)) _ | with_reducible refine Below.setCell ?_ (by first | omega | (simp <;> omega)) _ | with_reducible refine Below.step2 (by with_reducible assumption) ?_ | with_reducible refine Below.step (by with_reducible assumption) ?_ (by first | omega | (simp <;> omega))))); (simp; omega)); have HB1 := Lib.hid hbw; have HK1 := Lib.hid hk1; have ol1 := hk1.lt; obtain ⟨q0, q1, q2, q3, q4, q5⟩ := hk1.sixc; clear hk1 hb1 hbw))
                  go_quiet (fail)
                  go_wp2_with (first
                    | (go_at_call 22; with_reducible refine (refIsDay_b B1.out _).mono ?_; rintro e w' ⟨rfl, rfl⟩)
                    | (go_at_call 37; with_reducible refine (within_b B2.out _).mono ?_; rintro e w' ⟨rfl, rfl⟩)
                    | (go_at_call 37; with_reducible refine (within_b B3.out _).mono ?_; rintro e w' ⟨rfl, rfl⟩)
                    | (go_at_call 38; with_reducible refine (refName_any xp _ (by omega)).mono ?_; rw [BN.out]; rintro e w' ⟨rfl, rfl⟩)
                    | (go_at_call 39; with_reducible refine (plain_any xd xk xn xp xs xg _ B2.out).mono ?_; rw [BP.out]; rintro e w1 ⟨hb1, rfl⟩; have hk1 : Bk w1 wr.heap.size 24 #[.int .i64 xd, .int .i64 xk, .string xp, .int .i64 xn, .bool xs, .bool xg] := (by refine Bk.below (D := _) ?_ hb1 (by simp); exact (by repeat (first | with_reducible assumption | with_reducible exact Bk.at_ (by first | (simp; done) | omega) | with_reducible refine Bk.alloc ?_ _ | with_reducible refine Bk.drew ?_ | with_reducible refine Bk.drewN ?_ _ | with_reducible refine Bk.step (by with_reducible assumption) ?_ (by first | omega | (simp <;> omega))))); have hbw : Below w.heap.size w w1 := (by have hb0 := HB.out; refine Below.trans ?_ (hb1.mono ?_); (exact (by repeat (first | with_reducible exact Below.refl _ _ | with_reducible assumption | with_reducible refine Below.drew ?_ | with_reducible refine Below.drewN ?_ _ | with_reducible refine Below.alloc2 ?_ _ | with_reducible refine Below.alloc ?_ (by first | omega | (simp <;> omega)) _ | with_reducible refine Below.setCell ?_ (by first | omega | (simp <;> omega)) _ | with_reducible refine Below.step2 (by with_reducible assumption) ?_ | with_reducible refine Below.step (by with_reducible assumption) ?_ (by first | omega | (simp <;> omega))))); (simp; omega)); have HB1 := Lib.hid hbw; have HK1 := Lib.hid hk1; have ol1 := hk1.lt; obtain ⟨q0, q1, q2, q3, q4, q5⟩ := hk1.sixc; clear hk1 hb1 hbw))
                  go_ret
                  refine ⟨by have hb0 := HB.out; exact (by repeat (first | with_reducible exact Below.refl _ _ | with_reducible assumption | with_reducible refine Below.drew ?_ | with_reducible refine Below.drewN ?_ _ | with_reducible refine Below.alloc2 ?_ _ | with_reducible refine Below.alloc ?_ (by first | omega | (simp <;> omega)) _ | with_reducible refine Below.setCell ?_ (by first | omega | (simp <;> omega)) _ | with_reducible refine Below.step2 (by with_reducible assumption) ?_ | with_reducible refine Below.step (by with_reducible assumption) ?_ (by first | omega | (simp <;> omega)))), ret_int ?_⟩
                  rw [← HR.out]
                  exact (rGo_bad (E := 4) HX.out HV.out HE.out (by decide)).symm)
              cases b6
              · have HE := Lib.hid (HE.out.trans (by simp [eEr, hd] : _ = (3 : Int)))
                cases v3 <;> cases ve <;> cases nm
                all_goals first
                  | (exfalso; revert hpt; simp; done)
                  | (exfalso; revert hfull; simp; done)
                  | skip
                all_goals (
                  go_wp2_with (first
                    | (go_at_call 22; with_reducible refine (refIsDay_b B1.out _).mono ?_; rintro e w' ⟨rfl, rfl⟩)
                    | (go_at_call 37; with_reducible refine (within_b B2.out _).mono ?_; rintro e w' ⟨rfl, rfl⟩)
                    | (go_at_call 37; with_reducible refine (within_b B3.out _).mono ?_; rintro e w' ⟨rfl, rfl⟩)
                    | (go_at_call 38; with_reducible refine (refName_any xp _ (by omega)).mono ?_; rw [BN.out]; rintro e w' ⟨rfl, rfl⟩)
                    | (go_at_call 39; with_reducible refine (plain_any xd xk xn xp xs xg _ B2.out).mono ?_; rw [BP.out]; rintro e w1 ⟨hb1, rfl⟩; have hk1 : Bk w1 wr.heap.size 24 #[.int .i64 xd, .int .i64 xk, .string xp, .int .i64 xn, .bool xs, .bool xg] := (by refine Bk.below (D := _) ?_ hb1 (by simp); exact (by repeat (first | with_reducible assumption | with_reducible exact Bk.at_ (by first | (simp; done) | omega) | with_reducible refine Bk.alloc ?_ _ | with_reducible refine Bk.drew ?_ | with_reducible refine Bk.drewN ?_ _ | with_reducible refine Bk.step (by with_reducible assumption) ?_ (by first | omega | (simp <;> omega))))); have hbw : Below w.heap.size w w1 := (by have hb0 := HB.out; refine Below.trans ?_ (hb1.mono ?_); (exact (by repeat (first | with_reducible exact Below.refl _ _ | with_reducible assumption | with_reducible refine Below.drew ?_ | with_reducible refine Below.drewN ?_ _ | with_reducible refine Below.alloc2 ?_ _ | with_reducible refine Below.alloc ?_ (by first | omega | (simp <;> omega)) _ | with_reducible refine Below.setCell ?_ (by first | omega | (simp <;> omega)) _ | with_reducible refine Below.step2 (by with_reducible assumption) ?_ | with_reducible refine Below.step (by with_reducible assumption) ?_ (by first | omega | (simp <;> omega))))); (simp; omega)); have HB1 := Lib.hid hbw; have HK1 := Lib.hid hk1; have ol1 := hk1.lt; obtain ⟨q0, q1, q2, q3, q4, q5⟩ := hk1.sixc; clear hk1 hb1 hbw))
                  go_quiet (fail)
                  go_wp2_with (first
                    | (go_at_call 22; with_reducible refine (refIsDay_b B1.out _).mono ?_; rintro e w' ⟨rfl, rfl⟩)
                    | (go_at_call 37; with_reducible refine (within_b B2.out _).mono ?_; rintro e w' ⟨rfl, rfl⟩)
                    | (go_at_call 37; with_reducible refine (within_b B3.out _).mono ?_; rintro e w' ⟨rfl, rfl⟩)
                    | (go_at_call 38; with_reducible refine (refName_any xp _ (by omega)).mono ?_; rw [BN.out]; rintro e w' ⟨rfl, rfl⟩)
                    | (go_at_call 39; with_reducible refine (plain_any xd xk xn xp xs xg _ B2.out).mono ?_; rw [BP.out]; rintro e w1 ⟨hb1, rfl⟩; have hk1 : Bk w1 wr.heap.size 24 #[.int .i64 xd, .int .i64 xk, .string xp, .int .i64 xn, .bool xs, .bool xg] := (by refine Bk.below (D := _) ?_ hb1 (by simp); exact (by repeat (first | with_reducible assumption | with_reducible exact Bk.at_ (by first | (simp; done) | omega) | with_reducible refine Bk.alloc ?_ _ | with_reducible refine Bk.drew ?_ | with_reducible refine Bk.drewN ?_ _ | with_reducible refine Bk.step (by with_reducible assumption) ?_ (by first | omega | (simp <;> omega))))); have hbw : Below w.heap.size w w1 := (by have hb0 := HB.out; refine Below.trans ?_ (hb1.mono ?_); (exact (by repeat (first | with_reducible exact Below.refl _ _ | with_reducible assumption | with_reducible refine Below.drew ?_ | with_reducible refine Below.drewN ?_ _ | with_reducible refine Below.alloc2 ?_ _ | with_reducible refine Below.alloc ?_ (by first | omega | (simp <;> omega)) _ | with_reducible refine Below.setCell ?_ (by first | omega | (simp <;> omega)) _ | with_reducible refine Below.step2 (by with_reducible assumption) ?_ | with_reducible refine Below.step (by with_reducible assumption) ?_ (by first | omega | (simp <;> omega))))); (simp; omega)); have HB1 := Lib.hid hbw; have HK1 := Lib.hid hk1; have ol1 := hk1.lt; obtain ⟨q0, q1, q2, q3, q4, q5⟩ := hk1.sixc; clear hk1 hb1 hbw))
                  go_ret
                  refine ⟨by have hb0 := HB1.out; exact (by repeat (first | with_reducible exact Below.refl _ _ | with_reducible assumption | with_reducible refine Below.drew ?_ | with_reducible refine Below.drewN ?_ _ | with_reducible refine Below.alloc2 ?_ _ | with_reducible refine Below.alloc ?_ (by first | omega | (simp <;> omega)) _ | with_reducible refine Below.setCell ?_ (by first | omega | (simp <;> omega)) _ | with_reducible refine Below.step2 (by with_reducible assumption) ?_ | with_reducible refine Below.step (by with_reducible assumption) ?_ (by first | omega | (simp <;> omega)))), ret_int ?_⟩
                  rw [← HR.out]
                  exact (rGo_bad (E := 3) HX.out HV.out HE.out (by decide)).symm)
              cases v3 <;> cases ve <;> cases nm
              all_goals first
                | (exfalso; revert hpt; simp; done)
                | (exfalso; revert hfull; simp; done)
                | skip
              all_goals (
                  go_wp2_with (first
                    | (go_at_call 22; with_reducible refine (refIsDay_b B1.out _).mono ?_; rintro e w' ⟨rfl, rfl⟩)
                    | (go_at_call 37; with_reducible refine (within_b B2.out _).mono ?_; rintro e w' ⟨rfl, rfl⟩)
                    | (go_at_call 37; with_reducible refine (within_b B3.out _).mono ?_; rintro e w' ⟨rfl, rfl⟩)
                    | (go_at_call 38; with_reducible refine (refName_any xp _ (by omega)).mono ?_; rw [BN.out]; rintro e w' ⟨rfl, rfl⟩)
                    | (go_at_call 39; with_reducible refine (plain_any xd xk xn xp xs xg _ B2.out).mono ?_; rw [BP.out]; rintro e w1 ⟨hb1, rfl⟩; have hk1 : Bk w1 wr.heap.size 24 #[.int .i64 xd, .int .i64 xk, .string xp, .int .i64 xn, .bool xs, .bool xg] := (by refine Bk.below (D := _) ?_ hb1 (by simp); exact (by repeat (first | with_reducible assumption | with_reducible exact Bk.at_ (by first | (simp; done) | omega) | with_reducible refine Bk.alloc ?_ _ | with_reducible refine Bk.drew ?_ | with_reducible refine Bk.drewN ?_ _ | with_reducible refine Bk.step (by with_reducible assumption) ?_ (by first | omega | (simp <;> omega))))); have hbw : Below w.heap.size w w1 := (by have hb0 := HB.out; refine Below.trans ?_ (hb1.mono ?_); (exact (by repeat (first | with_reducible exact Below.refl _ _ | with_reducible assumption | with_reducible refine Below.drew ?_ | with_reducible refine Below.drewN ?_ _ | with_reducible refine Below.alloc2 ?_ _ | with_reducible refine Below.alloc ?_ (by first | omega | (simp <;> omega)) _ | with_reducible refine Below.setCell ?_ (by first | omega | (simp <;> omega)) _ | with_reducible refine Below.step2 (by with_reducible assumption) ?_ | with_reducible refine Below.step (by with_reducible assumption) ?_ (by first | omega | (simp <;> omega))))); (simp; omega)); have HB1 := Lib.hid hbw; have HK1 := Lib.hid hk1; have ol1 := hk1.lt; obtain ⟨q0, q1, q2, q3, q4, q5⟩ := hk1.sixc; clear hk1 hb1 hbw))
                  go_quiet (fail)
                  go_upto_region 15 with (first
                    | (go_at_call 22; with_reducible refine (refIsDay_b B1.out _).mono ?_; rintro e w' ⟨rfl, rfl⟩)
                    | (go_at_call 37; with_reducible refine (within_b B2.out _).mono ?_; rintro e w' ⟨rfl, rfl⟩)
                    | (go_at_call 37; with_reducible refine (within_b B3.out _).mono ?_; rintro e w' ⟨rfl, rfl⟩)
                    | (go_at_call 38; with_reducible refine (refName_any xp _ (by omega)).mono ?_; rw [BN.out]; rintro e w' ⟨rfl, rfl⟩)
                    | (go_at_call 39; with_reducible refine (plain_any xd xk xn xp xs xg _ B2.out).mono ?_; rw [BP.out]; rintro e w1 ⟨hb1, rfl⟩; have hk1 : Bk w1 wr.heap.size 24 #[.int .i64 xd, .int .i64 xk, .string xp, .int .i64 xn, .bool xs, .bool xg] := (by refine Bk.below (D := _) ?_ hb1 (by simp); exact (by repeat (first | with_reducible assumption | with_reducible exact Bk.at_ (by first | (simp; done) | omega) | with_reducible refine Bk.alloc ?_ _ | with_reducible refine Bk.drew ?_ | with_reducible refine Bk.drewN ?_ _ | with_reducible refine Bk.step (by with_reducible assumption) ?_ (by first | omega | (simp <;> omega))))); have hbw : Below w.heap.size w w1 := (by have hb0 := HB.out; refine Below.trans ?_ (hb1.mono ?_); (exact (by repeat (first | with_reducible exact Below.refl _ _ | with_reducible assumption | with_reducible refine Below.drew ?_ | with_reducible refine Below.drewN ?_ _ | with_reducible refine Below.alloc2 ?_ _ | with_reducible refine Below.alloc ?_ (by first | omega | (simp <;> omega)) _ | with_reducible refine Below.setCell ?_ (by first | omega | (simp <;> omega)) _ | with_reducible refine Below.step2 (by with_reducible assumption) ?_ | with_reducible refine Below.step (by with_reducible assumption) ?_ (by first | omega | (simp <;> omega))))); (simp; omega)); have HB1 := Lib.hid hbw; have HK1 := Lib.hid hk1; have ol1 := hk1.lt; obtain ⟨q0, q1, q2, q3, q4, q5⟩ := hk1.sixc; clear hk1 hb1 hbw))
                  refine region_goes (n := 10) (fun w' => (w'.cell? ⟨wr.heap.size, 0, none⟩ = some (.int .i64 xd) ∧ w'.cell? ⟨wr.heap.size, 1, none⟩ = some (.int .i64 xk) ∧ w'.cell? ⟨wr.heap.size, 2, none⟩ = some (.string xp) ∧ w'.cell? ⟨wr.heap.size, 3, none⟩ = some (.int .i64 xn) ∧ w'.cell? ⟨wr.heap.size, 4, none⟩ = some (.bool xs) ∧ w'.cell? ⟨wr.heap.size, 5, none⟩ = some (.bool xg))) [] (by kernel_rfl) rfl ?_
                  have hs1 := (Bk.drew HK1.out).sixc
                  refine goes_takeE (i := 0) (E := [2, 5, 8, 9]) (v := .slice (some ⟨b, o, none⟩) n c) rfl (by kernel_rfl) rfl (fun _ _ _ h => h) (by intro w' hw'; go_simp) hs1 ?_
                  refine goes_takeE (i := 1) (E := [2, 5, 8, 9]) (v := .int .i64 (k : Int)) rfl (by kernel_rfl) rfl (fun _ _ _ h => h) (by intro w' hw'; go_simp) hs1 ?_
                  refine goes_takeE (i := 2) (E := [5, 8, 9]) (v := .slice (some ⟨b, o, none⟩) k c) rfl (by kernel_rfl) rfl (fun _ _ _ h => h) (by intro w' hw'; go_simp) hs1 ?_
                  refine goes_takeE (i := 3) (E := [4, 5, 8, 9]) (v := .pointer (some ⟨wr.heap.size, 2, none⟩)) rfl (by kernel_rfl) rfl (fun _ _ _ h => h) (by intro w' hw'; go_simp) hs1 ?_
                  refine goes_takeE (i := 4) (E := [5, 8, 9]) (v := .string xp) rfl (by kernel_rfl) rfl (fun _ _ _ h => h) (by intro w' hw'; obtain ⟨z0, z1, z2, z3, z4, z5⟩ := hw'; go_simp) hs1 ?_
                  refine goes_takeE (i := 6) (E := [7, 8, 9]) (v := .pointer (some ⟨wr.heap.size, 3, none⟩)) rfl (by kernel_rfl) rfl (fun _ _ _ h => h) (by intro w' hw'; go_simp) hs1 ?_
                  refine goes_takeE (i := 7) (E := [8, 9]) (v := .int .i64 xn) rfl (by kernel_rfl) rfl (fun _ _ _ h => h) (by intro w' hw'; obtain ⟨z0, z1, z2, z3, z4, z5⟩ := hw'; go_simp) hs1 ?_
                  refine goes_call (i := 5) rfl (by kernel_rfl) ?_
                  go_wp2_with (go_at_call 41; refine (OPN.out _ (by have hb0 := HB1.out; exact Below.drew hb0)).mono ?_; rintro e w2 ⟨hb2, A2, m2, c2, rfl, hnum⟩; have hk2 : Bk w2 wr.heap.size 24 #[.int .i64 xd, .int .i64 xk, .string xp, .int .i64 xn, .bool xs, .bool xg] := (Bk.drew HK1.out).below hb2 (by simp; omega); have hbw : Below w.heap.size w w2 := (HB1.out.drew).trans (hb2.mono (by simp; exact HB1.out.size)); have HB2 := Lib.hid hbw; have HS2 := Lib.hid hk2.sixc; have HNU := Lib.hid hnum; clear hk2 hb2 hbw hnum)
                  refine behind_ok ⟨HS2.out, ?_⟩
                  refine goes_call (i := 8) rfl (by kernel_rfl) ?_
                  go_wp2_with (go_at_call 40; refine (has_any _ _ _ _ _ xn _ HNU.out).mono ?_; rw [HOL.out]; rintro e w' ⟨rfl, rfl⟩)
                  refine behind_ok ⟨HS2.out, ?_⟩
                  refine goes_takeE (i := 9) (E := []) (v := .bool v) rfl (by kernel_rfl) rfl (fun _ _ _ h => h) (by intro w' hw'; go_simp) HS2.out ?_
                  refine goes_done (by kernel_rfl) ?_
                  obtain ⟨s0, s1, s2, s3, s4, s5⟩ := HS2.out
                  clear hs1
                  by_cases h4 : xk = 4
                  · have h4b : (xk == 4) = true := by simpa using h4
                    have h5b : (xk == 5) = false := by simp; omega
                    have h5 : ¬ xk = 5 := by omega
                    cases v
                    · have HE := Lib.hid (HE.out.trans (by simp [eEr, hd, h4] : _ = (0 : Int)))
                      clear h4 h5
                      go_wp2
                      go_roundw
                      case rel => exact ⟨k + 1, by omega, by go_num, Lib.hid (rGo_next HX.out HV.out HE.out), HB2.out⟩
                      case measure => simp [intOf]; omega
                    · have HE := Lib.hid (HE.out.trans (by simp [eEr, hd, h4] : _ = (5 : Int)))
                      clear h4 h5
                      go_wp2
                      go_ret
                      refine ⟨by have hb0 := HB2.out; exact (by repeat (first | with_reducible exact Below.refl _ _ | with_reducible assumption | with_reducible refine Below.drew ?_ | with_reducible refine Below.drewN ?_ _ | with_reducible refine Below.alloc2 ?_ _ | with_reducible refine Below.alloc ?_ (by first | omega | (simp <;> omega)) _ | with_reducible refine Below.setCell ?_ (by first | omega | (simp <;> omega)) _ | with_reducible refine Below.step2 (by with_reducible assumption) ?_ | with_reducible refine Below.step (by with_reducible assumption) ?_ (by first | omega | (simp <;> omega)))), ret_int ?_⟩
                      rw [← HR.out]
                      exact (rGo_bad (E := 5) HX.out HV.out HE.out (by decide)).symm
                  · have h4b : (xk == 4) = false := by simpa using h4
                    by_cases h5 : xk = 5
                    · have h5b : (xk == 5) = true := by simpa using h5
                      cases v
                      · have HE := Lib.hid (HE.out.trans (by simp [eEr, hd, h5] : _ = (6 : Int)))
                        clear h4 h5
                        go_wp2
                        go_ret
                        refine ⟨by have hb0 := HB2.out; exact (by repeat (first | with_reducible exact Below.refl _ _ | with_reducible assumption | with_reducible refine Below.drew ?_ | with_reducible refine Below.drewN ?_ _ | with_reducible refine Below.alloc2 ?_ _ | with_reducible refine Below.alloc ?_ (by first | omega | (simp <;> omega)) _ | with_reducible refine Below.setCell ?_ (by first | omega | (simp <;> omega)) _ | with_reducible refine Below.step2 (by with_reducible assumption) ?_ | with_reducible refine Below.step (by with_reducible assumption) ?_ (by first | omega | (simp <;> omega)))), ret_int ?_⟩
                        rw [← HR.out]
                        exact (rGo_bad (E := 6) HX.out HV.out HE.out (by decide)).symm
                      · have HE := Lib.hid (HE.out.trans (by simp [eEr, hd, h5] : _ = (0 : Int)))
                        clear h4 h5
                        go_wp2
                        go_roundw
                        case rel => exact ⟨k + 1, by omega, by go_num, Lib.hid (rGo_next HX.out HV.out HE.out), HB2.out⟩
                        case measure => simp [intOf]; omega
                    · have h5b : (xk == 5) = false := by simpa using h5
                      have HE := Lib.hid (HE.out.trans (by simp [eEr, hd, h4, h5] : _ = (0 : Int)))
                      clear h4 h5
                      go_wp2
                      go_roundw
                      case rel => exact ⟨k + 1, by omega, by go_num, Lib.hid (rGo_next HX.out HV.out HE.out), HB2.out⟩
                      case measure => simp [intOf]; omega))
      · obtain ⟨j, hj⟩ : ∃ j, k = j + 1 := ⟨k - 1, by omega⟩
        obtain ⟨b', o', ⟨yd, yk, yp, yn, ys, yg⟩, e, hbb', hy, p0, p1, p2, p3, p4, p5⟩ := (H.out _ hb).ev (show j < n by omega)
        obtain ⟨rfl, rfl⟩ : b = b' ∧ o = o' := by simpa using e
        have hD0 : D = yd := by rw [← eD, hj, lastE_step hy]
        subst hD0
        dsimp only at p0
        have hw1 : IntKind.i64.wrap ((k : Int) - 1) = (j : Int) := by rw [IntWalk.i64_in _ (by omega)]; omega
        have y0 : (0 : Int) < (k : Int) := by omega
        have y01 : 0 < k := by omega
        have y02 : decide (0 < k) = true := decide_eq_true y01
        have y00 : decide ((0 : Int) < (k : Int)) = true := decide_eq_true y0
        have HKJ := Lib.hid hj
        have z4 : (0 : Int) ≤ (j : Int) := by omega
        have z5 : (j : Int) < (n : Int) := by omega
        clear hx hb e1 e2 e3 e5 e6 eD enm ev eve2 hy p1 p2 p3 p4 p5 e hbb' hj hkp
        (
              cases b1
              · (
                          go_wp2_with (first
                            | (go_at_call 22; with_reducible refine (refIsDay_b B1.out _).mono ?_; rintro e w' ⟨rfl, rfl⟩)
                            | (go_at_call 37; with_reducible refine (within_b B2.out _).mono ?_; rintro e w' ⟨rfl, rfl⟩)
                            | (go_at_call 37; with_reducible refine (within_b B3.out _).mono ?_; rintro e w' ⟨rfl, rfl⟩)
                            | (go_at_call 38; with_reducible refine (refName_any xp _ (by omega)).mono ?_; rw [BN.out]; rintro e w' ⟨rfl, rfl⟩)
                            | (go_at_call 39; with_reducible refine (plain_any xd xk xn xp xs xg _ B2.out).mono ?_; rw [BP.out]; rintro e w1 ⟨hb1, rfl⟩; have hk1 : Bk w1 wr.heap.size 24 #[.int .i64 xd, .int .i64 xk, .string xp, .int .i64 xn, .bool xs, .bool xg] := (by refine Bk.below (D := _) ?_ hb1 (by simp); exact (by repeat (first | with_reducible assumption | with_reducible exact Bk.at_ (by first | (simp; done) | omega) | with_reducible refine Bk.alloc ?_ _ | with_reducible refine Bk.drew ?_ | with_reducible refine Bk.drewN ?_ _ | with_reducible refine Bk.step (by with_reducible assumption) ?_ (by first | omega | (simp <;> omega))))); have hbw : Below w.heap.size w w1 := (by have hb0 := HB.out; refine Below.trans ?_ (hb1.mono ?_); (exact (by repeat (first | with_reducible exact Below.refl _ _ | with_reducible assumption | with_reducible refine Below.drew ?_ | with_reducible refine Below.drewN ?_ _ | with_reducible refine Below.alloc2 ?_ _ | with_reducible refine Below.alloc ?_ (by first | omega | (simp <;> omega)) _ | with_reducible refine Below.setCell ?_ (by first | omega | (simp <;> omega)) _ | with_reducible refine Below.step2 (by with_reducible assumption) ?_ | with_reducible refine Below.step (by with_reducible assumption) ?_ (by first | omega | (simp <;> omega))))); (simp; omega)); have HB1 := Lib.hid hbw; have HK1 := Lib.hid hk1; have ol1 := hk1.lt; obtain ⟨q0, q1, q2, q3, q4, q5⟩ := hk1.sixc; clear hk1 hb1 hbw))
                          go_ret
                          refine ⟨by have hb0 := HB.out; exact (by repeat (first | with_reducible exact Below.refl _ _ | with_reducible assumption | with_reducible refine Below.drew ?_ | with_reducible refine Below.drewN ?_ _ | with_reducible refine Below.alloc2 ?_ _ | with_reducible refine Below.alloc ?_ (by first | omega | (simp <;> omega)) _ | with_reducible refine Below.setCell ?_ (by first | omega | (simp <;> omega)) _ | with_reducible refine Below.step2 (by with_reducible assumption) ?_ | with_reducible refine Below.step (by with_reducible assumption) ?_ (by first | omega | (simp <;> omega)))), ret_int ?_⟩
                          rw [← HR.out]
                          exact (rGo_bad (E := 2) HX.out HV.out HE.out (by decide)).symm)
              cases b2
              · (
                          go_wp2_with (first
                            | (go_at_call 22; with_reducible refine (refIsDay_b B1.out _).mono ?_; rintro e w' ⟨rfl, rfl⟩)
                            | (go_at_call 37; with_reducible refine (within_b B2.out _).mono ?_; rintro e w' ⟨rfl, rfl⟩)
                            | (go_at_call 37; with_reducible refine (within_b B3.out _).mono ?_; rintro e w' ⟨rfl, rfl⟩)
                            | (go_at_call 38; with_reducible refine (refName_any xp _ (by omega)).mono ?_; rw [BN.out]; rintro e w' ⟨rfl, rfl⟩)
                            | (go_at_call 39; with_reducible refine (plain_any xd xk xn xp xs xg _ B2.out).mono ?_; rw [BP.out]; rintro e w1 ⟨hb1, rfl⟩; have hk1 : Bk w1 wr.heap.size 24 #[.int .i64 xd, .int .i64 xk, .string xp, .int .i64 xn, .bool xs, .bool xg] := (by refine Bk.below (D := _) ?_ hb1 (by simp); exact (by repeat (first | with_reducible assumption | with_reducible exact Bk.at_ (by first | (simp; done) | omega) | with_reducible refine Bk.alloc ?_ _ | with_reducible refine Bk.drew ?_ | with_reducible refine Bk.drewN ?_ _ | with_reducible refine Bk.step (by with_reducible assumption) ?_ (by first | omega | (simp <;> omega))))); have hbw : Below w.heap.size w w1 := (by have hb0 := HB.out; refine Below.trans ?_ (hb1.mono ?_); (exact (by repeat (first | with_reducible exact Below.refl _ _ | with_reducible assumption | with_reducible refine Below.drew ?_ | with_reducible refine Below.drewN ?_ _ | with_reducible refine Below.alloc2 ?_ _ | with_reducible refine Below.alloc ?_ (by first | omega | (simp <;> omega)) _ | with_reducible refine Below.setCell ?_ (by first | omega | (simp <;> omega)) _ | with_reducible refine Below.step2 (by with_reducible assumption) ?_ | with_reducible refine Below.step (by with_reducible assumption) ?_ (by first | omega | (simp <;> omega))))); (simp; omega)); have HB1 := Lib.hid hbw; have HK1 := Lib.hid hk1; have ol1 := hk1.lt; obtain ⟨q0, q1, q2, q3, q4, q5⟩ := hk1.sixc; clear hk1 hb1 hbw))
                          go_ret
                          refine ⟨by have hb0 := HB.out; exact (by repeat (first | with_reducible exact Below.refl _ _ | with_reducible assumption | with_reducible refine Below.drew ?_ | with_reducible refine Below.drewN ?_ _ | with_reducible refine Below.alloc2 ?_ _ | with_reducible refine Below.alloc ?_ (by first | omega | (simp <;> omega)) _ | with_reducible refine Below.setCell ?_ (by first | omega | (simp <;> omega)) _ | with_reducible refine Below.step2 (by with_reducible assumption) ?_ | with_reducible refine Below.step (by with_reducible assumption) ?_ (by first | omega | (simp <;> omega)))), ret_int ?_⟩
                          rw [← HR.out]
                          exact (rGo_bad (E := 2) HX.out HV.out HE.out (by decide)).symm)
              cases b3
              · (
                          go_wp2_with (first
                            | (go_at_call 22; with_reducible refine (refIsDay_b B1.out _).mono ?_; rintro e w' ⟨rfl, rfl⟩)
                            | (go_at_call 37; with_reducible refine (within_b B2.out _).mono ?_; rintro e w' ⟨rfl, rfl⟩)
                            | (go_at_call 37; with_reducible refine (within_b B3.out _).mono ?_; rintro e w' ⟨rfl, rfl⟩)
                            | (go_at_call 38; with_reducible refine (refName_any xp _ (by omega)).mono ?_; rw [BN.out]; rintro e w' ⟨rfl, rfl⟩)
                            | (go_at_call 39; with_reducible refine (plain_any xd xk xn xp xs xg _ B2.out).mono ?_; rw [BP.out]; rintro e w1 ⟨hb1, rfl⟩; have hk1 : Bk w1 wr.heap.size 24 #[.int .i64 xd, .int .i64 xk, .string xp, .int .i64 xn, .bool xs, .bool xg] := (by refine Bk.below (D := _) ?_ hb1 (by simp); exact (by repeat (first | with_reducible assumption | with_reducible exact Bk.at_ (by first | (simp; done) | omega) | with_reducible refine Bk.alloc ?_ _ | with_reducible refine Bk.drew ?_ | with_reducible refine Bk.drewN ?_ _ | with_reducible refine Bk.step (by with_reducible assumption) ?_ (by first | omega | (simp <;> omega))))); have hbw : Below w.heap.size w w1 := (by have hb0 := HB.out; refine Below.trans ?_ (hb1.mono ?_); (exact (by repeat (first | with_reducible exact Below.refl _ _ | with_reducible assumption | with_reducible refine Below.drew ?_ | with_reducible refine Below.drewN ?_ _ | with_reducible refine Below.alloc2 ?_ _ | with_reducible refine Below.alloc ?_ (by first | omega | (simp <;> omega)) _ | with_reducible refine Below.setCell ?_ (by first | omega | (simp <;> omega)) _ | with_reducible refine Below.step2 (by with_reducible assumption) ?_ | with_reducible refine Below.step (by with_reducible assumption) ?_ (by first | omega | (simp <;> omega))))); (simp; omega)); have HB1 := Lib.hid hbw; have HK1 := Lib.hid hk1; have ol1 := hk1.lt; obtain ⟨q0, q1, q2, q3, q4, q5⟩ := hk1.sixc; clear hk1 hb1 hbw))
                          go_ret
                          refine ⟨by have hb0 := HB.out; exact (by repeat (first | with_reducible exact Below.refl _ _ | with_reducible assumption | with_reducible refine Below.drew ?_ | with_reducible refine Below.drewN ?_ _ | with_reducible refine Below.alloc2 ?_ _ | with_reducible refine Below.alloc ?_ (by first | omega | (simp <;> omega)) _ | with_reducible refine Below.setCell ?_ (by first | omega | (simp <;> omega)) _ | with_reducible refine Below.step2 (by with_reducible assumption) ?_ | with_reducible refine Below.step (by with_reducible assumption) ?_ (by first | omega | (simp <;> omega)))), ret_int ?_⟩
                          rw [← HR.out]
                          exact (rGo_bad (E := 2) HX.out HV.out HE.out (by decide)).symm)
              have hday := dayB_iff.1 B1.out
              by_cases hd : xd < D
              · (
                          have HE := Lib.hid (HE.out.trans (by simp [eEr, hd] : _ = (10 : Int)))
                          go_wp2_with (first
                            | (go_at_call 22; with_reducible refine (refIsDay_b B1.out _).mono ?_; rintro e w' ⟨rfl, rfl⟩)
                            | (go_at_call 37; with_reducible refine (within_b B2.out _).mono ?_; rintro e w' ⟨rfl, rfl⟩)
                            | (go_at_call 37; with_reducible refine (within_b B3.out _).mono ?_; rintro e w' ⟨rfl, rfl⟩)
                            | (go_at_call 38; with_reducible refine (refName_any xp _ (by omega)).mono ?_; rw [BN.out]; rintro e w' ⟨rfl, rfl⟩)
                            | (go_at_call 39; with_reducible refine (plain_any xd xk xn xp xs xg _ B2.out).mono ?_; rw [BP.out]; rintro e w1 ⟨hb1, rfl⟩; have hk1 : Bk w1 wr.heap.size 24 #[.int .i64 xd, .int .i64 xk, .string xp, .int .i64 xn, .bool xs, .bool xg] := (by refine Bk.below (D := _) ?_ hb1 (by simp); exact (by repeat (first | with_reducible assumption | with_reducible exact Bk.at_ (by first | (simp; done) | omega) | with_reducible refine Bk.alloc ?_ _ | with_reducible refine Bk.drew ?_ | with_reducible refine Bk.drewN ?_ _ | with_reducible refine Bk.step (by with_reducible assumption) ?_ (by first | omega | (simp <;> omega))))); have hbw : Below w.heap.size w w1 := (by have hb0 := HB.out; refine Below.trans ?_ (hb1.mono ?_); (exact (by repeat (first | with_reducible exact Below.refl _ _ | with_reducible assumption | with_reducible refine Below.drew ?_ | with_reducible refine Below.drewN ?_ _ | with_reducible refine Below.alloc2 ?_ _ | with_reducible refine Below.alloc ?_ (by first | omega | (simp <;> omega)) _ | with_reducible refine Below.setCell ?_ (by first | omega | (simp <;> omega)) _ | with_reducible refine Below.step2 (by with_reducible assumption) ?_ | with_reducible refine Below.step (by with_reducible assumption) ?_ (by first | omega | (simp <;> omega))))); (simp; omega)); have HB1 := Lib.hid hbw; have HK1 := Lib.hid hk1; have ol1 := hk1.lt; obtain ⟨q0, q1, q2, q3, q4, q5⟩ := hk1.sixc; clear hk1 hb1 hbw))
                          go_quiet (fail)
                          go_wp2_with (first
                            | (go_at_call 22; with_reducible refine (refIsDay_b B1.out _).mono ?_; rintro e w' ⟨rfl, rfl⟩)
                            | (go_at_call 37; with_reducible refine (within_b B2.out _).mono ?_; rintro e w' ⟨rfl, rfl⟩)
                            | (go_at_call 37; with_reducible refine (within_b B3.out _).mono ?_; rintro e w' ⟨rfl, rfl⟩)
                            | (go_at_call 38; with_reducible refine (refName_any xp _ (by omega)).mono ?_; rw [BN.out]; rintro e w' ⟨rfl, rfl⟩)
                            | (go_at_call 39; with_reducible refine (plain_any xd xk xn xp xs xg _ B2.out).mono ?_; rw [BP.out]; rintro e w1 ⟨hb1, rfl⟩; have hk1 : Bk w1 wr.heap.size 24 #[.int .i64 xd, .int .i64 xk, .string xp, .int .i64 xn, .bool xs, .bool xg] := (by refine Bk.below (D := _) ?_ hb1 (by simp); exact (by repeat (first | with_reducible assumption | with_reducible exact Bk.at_ (by first | (simp; done) | omega) | with_reducible refine Bk.alloc ?_ _ | with_reducible refine Bk.drew ?_ | with_reducible refine Bk.drewN ?_ _ | with_reducible refine Bk.step (by with_reducible assumption) ?_ (by first | omega | (simp <;> omega))))); have hbw : Below w.heap.size w w1 := (by have hb0 := HB.out; refine Below.trans ?_ (hb1.mono ?_); (exact (by repeat (first | with_reducible exact Below.refl _ _ | with_reducible assumption | with_reducible refine Below.drew ?_ | with_reducible refine Below.drewN ?_ _ | with_reducible refine Below.alloc2 ?_ _ | with_reducible refine Below.alloc ?_ (by first | omega | (simp <;> omega)) _ | with_reducible refine Below.setCell ?_ (by first | omega | (simp <;> omega)) _ | with_reducible refine Below.step2 (by with_reducible assumption) ?_ | with_reducible refine Below.step (by with_reducible assumption) ?_ (by first | omega | (simp <;> omega))))); (simp; omega)); have HB1 := Lib.hid hbw; have HK1 := Lib.hid hk1; have ol1 := hk1.lt; obtain ⟨q0, q1, q2, q3, q4, q5⟩ := hk1.sixc; clear hk1 hb1 hbw))
                          go_ret
                          refine ⟨by have hb0 := HB.out; exact (by repeat (first | with_reducible exact Below.refl _ _ | with_reducible assumption | with_reducible refine Below.drew ?_ | with_reducible refine Below.drewN ?_ _ | with_reducible refine Below.alloc2 ?_ _ | with_reducible refine Below.alloc ?_ (by first | omega | (simp <;> omega)) _ | with_reducible refine Below.setCell ?_ (by first | omega | (simp <;> omega)) _ | with_reducible refine Below.step2 (by with_reducible assumption) ?_ | with_reducible refine Below.step (by with_reducible assumption) ?_ (by first | omega | (simp <;> omega)))), ret_int ?_⟩
                          rw [← HR.out]
                          exact (rGo_bad (E := 10) HX.out HV.out HE.out (by decide)).symm)
              cases b5
              · have HE := Lib.hid (HE.out.trans (by simp [eEr, hd] : _ = (4 : Int)))
                cases v3 <;> cases ve <;> cases nm
                all_goals first
                  | (exfalso; revert hpt; simp; done)
                  | skip
                all_goals (
                  go_wp2_with (first
                    | (go_at_call 22; with_reducible refine (refIsDay_b B1.out _).mono ?_; rintro e w' ⟨rfl, rfl⟩)
                    | (go_at_call 37; with_reducible refine (within_b B2.out _).mono ?_; rintro e w' ⟨rfl, rfl⟩)
                    | (go_at_call 37; with_reducible refine (within_b B3.out _).mono ?_; rintro e w' ⟨rfl, rfl⟩)
                    | (go_at_call 38; with_reducible refine (refName_any xp _ (by omega)).mono ?_; rw [BN.out]; rintro e w' ⟨rfl, rfl⟩)
                    | (go_at_call 39; with_reducible refine (plain_any xd xk xn xp xs xg _ B2.out).mono ?_; rw [BP.out]; rintro e w1 ⟨hb1, rfl⟩; have hk1 : Bk w1 wr.heap.size 24 #[.int .i64 xd, .int .i64 xk, .string xp, .int .i64 xn, .bool xs, .bool xg] := (by refine Bk.below (D := _) ?_ hb1 (by simp); exact (by repeat (first | with_reducible assumption | with_reducible exact Bk.at_ (by first | (simp; done) | omega) | with_reducible refine Bk.alloc ?_ _ | with_reducible refine Bk.drew ?_ | with_reducible refine Bk.drewN ?_ _ | with_reducible refine Bk.step (by with_reducible assumption) ?_ (by first | omega | (simp <;> omega))))); have hbw : Below w.heap.size w w1 := (by have hb0 := HB.out; refine Below.trans ?_ (hb1.mono ?_); (exact (by repeat (first | with_reducible exact Below.refl _ _ | with_reducible assumption | with_reducible refine Below.drew ?_ | with_reducible refine Below.drewN ?_ _ | with_reducible refine Below.alloc2 ?_ _ | with_reducible refine Below.alloc ?_ (by first | omega | (simp <;> omega)) _ | with_reducible refine Below.setCell ?_ (by first | omega | (simp <;> omega)) _ | with_reducible refine Below.step2 (by with_reducible assumption) ?_ | with_reducible refine Below.step (by with_reducible assumption) ?_ (by first | omega | (simp <;> omega))))); (simp; omega)); have HB1 := Lib.hid hbw; have HK1 := Lib.hid hk1; have ol1 := hk1.lt; obtain ⟨q0, q1, q2, q3, q4, q5⟩ := hk1.sixc; clear hk1 hb1 hbw))
                  go_quiet (fail)
                  go_wp2_with (first
                    | (go_at_call 22; with_reducible refine (refIsDay_b B1.out _).mono ?_; rintro e w' ⟨rfl, rfl⟩)
                    | (go_at_call 37; with_reducible refine (within_b B2.out _).mono ?_; rintro e w' ⟨rfl, rfl⟩)
                    | (go_at_call 37; with_reducible refine (within_b B3.out _).mono ?_; rintro e w' ⟨rfl, rfl⟩)
                    | (go_at_call 38; with_reducible refine (refName_any xp _ (by omega)).mono ?_; rw [BN.out]; rintro e w' ⟨rfl, rfl⟩)
                    | (go_at_call 39; with_reducible refine (plain_any xd xk xn xp xs xg _ B2.out).mono ?_; rw [BP.out]; rintro e w1 ⟨hb1, rfl⟩; have hk1 : Bk w1 wr.heap.size 24 #[.int .i64 xd, .int .i64 xk, .string xp, .int .i64 xn, .bool xs, .bool xg] := (by refine Bk.below (D := _) ?_ hb1 (by simp); exact (by repeat (first | with_reducible assumption | with_reducible exact Bk.at_ (by first | (simp; done) | omega) | with_reducible refine Bk.alloc ?_ _ | with_reducible refine Bk.drew ?_ | with_reducible refine Bk.drewN ?_ _ | with_reducible refine Bk.step (by with_reducible assumption) ?_ (by first | omega | (simp <;> omega))))); have hbw : Below w.heap.size w w1 := (by have hb0 := HB.out; refine Below.trans ?_ (hb1.mono ?_); (exact (by repeat (first | with_reducible exact Below.refl _ _ | with_reducible assumption | with_reducible refine Below.drew ?_ | with_reducible refine Below.drewN ?_ _ | with_reducible refine Below.alloc2 ?_ _ | with_reducible refine Below.alloc ?_ (by first | omega | (simp <;> omega)) _ | with_reducible refine Below.setCell ?_ (by first | omega | (simp <;> omega)) _ | with_reducible refine Below.step2 (by with_reducible assumption) ?_ | with_reducible refine Below.step (by with_reducible assumption) ?_ (by first | omega | (simp <;> omega))))); (simp; omega)); have HB1 := Lib.hid hbw; have HK1 := Lib.hid hk1; have ol1 := hk1.lt; obtain ⟨q0, q1, q2, q3, q4, q5⟩ := hk1.sixc; clear hk1 hb1 hbw))
                  go_ret
                  refine ⟨by have hb0 := HB.out; exact (by repeat (first | with_reducible exact Below.refl _ _ | with_reducible assumption | with_reducible refine Below.drew ?_ | with_reducible refine Below.drewN ?_ _ | with_reducible refine Below.alloc2 ?_ _ | with_reducible refine Below.alloc ?_ (by first | omega | (simp <;> omega)) _ | with_reducible refine Below.setCell ?_ (by first | omega | (simp <;> omega)) _ | with_reducible refine Below.step2 (by with_reducible assumption) ?_ | with_reducible refine Below.step (by with_reducible assumption) ?_ (by first | omega | (simp <;> omega)))), ret_int ?_⟩
                  rw [← HR.out]
                  exact (rGo_bad (E := 4) HX.out HV.out HE.out (by decide)).symm)
              cases b6
              · have HE := Lib.hid (HE.out.trans (by simp [eEr, hd] : _ = (3 : Int)))
                cases v3 <;> cases ve <;> cases nm
                all_goals first
                  | (exfalso; revert hpt; simp; done)
                  | (exfalso; revert hfull; simp; done)
                  | skip
                all_goals (
                  go_wp2_with (first
                    | (go_at_call 22; with_reducible refine (refIsDay_b B1.out _).mono ?_; rintro e w' ⟨rfl, rfl⟩)
                    | (go_at_call 37; with_reducible refine (within_b B2.out _).mono ?_; rintro e w' ⟨rfl, rfl⟩)
                    | (go_at_call 37; with_reducible refine (within_b B3.out _).mono ?_; rintro e w' ⟨rfl, rfl⟩)
                    | (go_at_call 38; with_reducible refine (refName_any xp _ (by omega)).mono ?_; rw [BN.out]; rintro e w' ⟨rfl, rfl⟩)
                    | (go_at_call 39; with_reducible refine (plain_any xd xk xn xp xs xg _ B2.out).mono ?_; rw [BP.out]; rintro e w1 ⟨hb1, rfl⟩; have hk1 : Bk w1 wr.heap.size 24 #[.int .i64 xd, .int .i64 xk, .string xp, .int .i64 xn, .bool xs, .bool xg] := (by refine Bk.below (D := _) ?_ hb1 (by simp); exact (by repeat (first | with_reducible assumption | with_reducible exact Bk.at_ (by first | (simp; done) | omega) | with_reducible refine Bk.alloc ?_ _ | with_reducible refine Bk.drew ?_ | with_reducible refine Bk.drewN ?_ _ | with_reducible refine Bk.step (by with_reducible assumption) ?_ (by first | omega | (simp <;> omega))))); have hbw : Below w.heap.size w w1 := (by have hb0 := HB.out; refine Below.trans ?_ (hb1.mono ?_); (exact (by repeat (first | with_reducible exact Below.refl _ _ | with_reducible assumption | with_reducible refine Below.drew ?_ | with_reducible refine Below.drewN ?_ _ | with_reducible refine Below.alloc2 ?_ _ | with_reducible refine Below.alloc ?_ (by first | omega | (simp <;> omega)) _ | with_reducible refine Below.setCell ?_ (by first | omega | (simp <;> omega)) _ | with_reducible refine Below.step2 (by with_reducible assumption) ?_ | with_reducible refine Below.step (by with_reducible assumption) ?_ (by first | omega | (simp <;> omega))))); (simp; omega)); have HB1 := Lib.hid hbw; have HK1 := Lib.hid hk1; have ol1 := hk1.lt; obtain ⟨q0, q1, q2, q3, q4, q5⟩ := hk1.sixc; clear hk1 hb1 hbw))
                  go_quiet (fail)
                  go_wp2_with (first
                    | (go_at_call 22; with_reducible refine (refIsDay_b B1.out _).mono ?_; rintro e w' ⟨rfl, rfl⟩)
                    | (go_at_call 37; with_reducible refine (within_b B2.out _).mono ?_; rintro e w' ⟨rfl, rfl⟩)
                    | (go_at_call 37; with_reducible refine (within_b B3.out _).mono ?_; rintro e w' ⟨rfl, rfl⟩)
                    | (go_at_call 38; with_reducible refine (refName_any xp _ (by omega)).mono ?_; rw [BN.out]; rintro e w' ⟨rfl, rfl⟩)
                    | (go_at_call 39; with_reducible refine (plain_any xd xk xn xp xs xg _ B2.out).mono ?_; rw [BP.out]; rintro e w1 ⟨hb1, rfl⟩; have hk1 : Bk w1 wr.heap.size 24 #[.int .i64 xd, .int .i64 xk, .string xp, .int .i64 xn, .bool xs, .bool xg] := (by refine Bk.below (D := _) ?_ hb1 (by simp); exact (by repeat (first | with_reducible assumption | with_reducible exact Bk.at_ (by first | (simp; done) | omega) | with_reducible refine Bk.alloc ?_ _ | with_reducible refine Bk.drew ?_ | with_reducible refine Bk.drewN ?_ _ | with_reducible refine Bk.step (by with_reducible assumption) ?_ (by first | omega | (simp <;> omega))))); have hbw : Below w.heap.size w w1 := (by have hb0 := HB.out; refine Below.trans ?_ (hb1.mono ?_); (exact (by repeat (first | with_reducible exact Below.refl _ _ | with_reducible assumption | with_reducible refine Below.drew ?_ | with_reducible refine Below.drewN ?_ _ | with_reducible refine Below.alloc2 ?_ _ | with_reducible refine Below.alloc ?_ (by first | omega | (simp <;> omega)) _ | with_reducible refine Below.setCell ?_ (by first | omega | (simp <;> omega)) _ | with_reducible refine Below.step2 (by with_reducible assumption) ?_ | with_reducible refine Below.step (by with_reducible assumption) ?_ (by first | omega | (simp <;> omega))))); (simp; omega)); have HB1 := Lib.hid hbw; have HK1 := Lib.hid hk1; have ol1 := hk1.lt; obtain ⟨q0, q1, q2, q3, q4, q5⟩ := hk1.sixc; clear hk1 hb1 hbw))
                  go_ret
                  refine ⟨by have hb0 := HB1.out; exact (by repeat (first | with_reducible exact Below.refl _ _ | with_reducible assumption | with_reducible refine Below.drew ?_ | with_reducible refine Below.drewN ?_ _ | with_reducible refine Below.alloc2 ?_ _ | with_reducible refine Below.alloc ?_ (by first | omega | (simp <;> omega)) _ | with_reducible refine Below.setCell ?_ (by first | omega | (simp <;> omega)) _ | with_reducible refine Below.step2 (by with_reducible assumption) ?_ | with_reducible refine Below.step (by with_reducible assumption) ?_ (by first | omega | (simp <;> omega)))), ret_int ?_⟩
                  rw [← HR.out]
                  exact (rGo_bad (E := 3) HX.out HV.out HE.out (by decide)).symm)
              cases v3 <;> cases ve <;> cases nm
              all_goals first
                | (exfalso; revert hpt; simp; done)
                | (exfalso; revert hfull; simp; done)
                | skip
              all_goals (
                  go_wp2_with (first
                    | (go_at_call 22; with_reducible refine (refIsDay_b B1.out _).mono ?_; rintro e w' ⟨rfl, rfl⟩)
                    | (go_at_call 37; with_reducible refine (within_b B2.out _).mono ?_; rintro e w' ⟨rfl, rfl⟩)
                    | (go_at_call 37; with_reducible refine (within_b B3.out _).mono ?_; rintro e w' ⟨rfl, rfl⟩)
                    | (go_at_call 38; with_reducible refine (refName_any xp _ (by omega)).mono ?_; rw [BN.out]; rintro e w' ⟨rfl, rfl⟩)
                    | (go_at_call 39; with_reducible refine (plain_any xd xk xn xp xs xg _ B2.out).mono ?_; rw [BP.out]; rintro e w1 ⟨hb1, rfl⟩; have hk1 : Bk w1 wr.heap.size 24 #[.int .i64 xd, .int .i64 xk, .string xp, .int .i64 xn, .bool xs, .bool xg] := (by refine Bk.below (D := _) ?_ hb1 (by simp); exact (by repeat (first | with_reducible assumption | with_reducible exact Bk.at_ (by first | (simp; done) | omega) | with_reducible refine Bk.alloc ?_ _ | with_reducible refine Bk.drew ?_ | with_reducible refine Bk.drewN ?_ _ | with_reducible refine Bk.step (by with_reducible assumption) ?_ (by first | omega | (simp <;> omega))))); have hbw : Below w.heap.size w w1 := (by have hb0 := HB.out; refine Below.trans ?_ (hb1.mono ?_); (exact (by repeat (first | with_reducible exact Below.refl _ _ | with_reducible assumption | with_reducible refine Below.drew ?_ | with_reducible refine Below.drewN ?_ _ | with_reducible refine Below.alloc2 ?_ _ | with_reducible refine Below.alloc ?_ (by first | omega | (simp <;> omega)) _ | with_reducible refine Below.setCell ?_ (by first | omega | (simp <;> omega)) _ | with_reducible refine Below.step2 (by with_reducible assumption) ?_ | with_reducible refine Below.step (by with_reducible assumption) ?_ (by first | omega | (simp <;> omega))))); (simp; omega)); have HB1 := Lib.hid hbw; have HK1 := Lib.hid hk1; have ol1 := hk1.lt; obtain ⟨q0, q1, q2, q3, q4, q5⟩ := hk1.sixc; clear hk1 hb1 hbw))
                  go_quiet (fail)
                  go_upto_region 15 with (first
                    | (go_at_call 22; with_reducible refine (refIsDay_b B1.out _).mono ?_; rintro e w' ⟨rfl, rfl⟩)
                    | (go_at_call 37; with_reducible refine (within_b B2.out _).mono ?_; rintro e w' ⟨rfl, rfl⟩)
                    | (go_at_call 37; with_reducible refine (within_b B3.out _).mono ?_; rintro e w' ⟨rfl, rfl⟩)
                    | (go_at_call 38; with_reducible refine (refName_any xp _ (by omega)).mono ?_; rw [BN.out]; rintro e w' ⟨rfl, rfl⟩)
                    | (go_at_call 39; with_reducible refine (plain_any xd xk xn xp xs xg _ B2.out).mono ?_; rw [BP.out]; rintro e w1 ⟨hb1, rfl⟩; have hk1 : Bk w1 wr.heap.size 24 #[.int .i64 xd, .int .i64 xk, .string xp, .int .i64 xn, .bool xs, .bool xg] := (by refine Bk.below (D := _) ?_ hb1 (by simp); exact (by repeat (first | with_reducible assumption | with_reducible exact Bk.at_ (by first | (simp; done) | omega) | with_reducible refine Bk.alloc ?_ _ | with_reducible refine Bk.drew ?_ | with_reducible refine Bk.drewN ?_ _ | with_reducible refine Bk.step (by with_reducible assumption) ?_ (by first | omega | (simp <;> omega))))); have hbw : Below w.heap.size w w1 := (by have hb0 := HB.out; refine Below.trans ?_ (hb1.mono ?_); (exact (by repeat (first | with_reducible exact Below.refl _ _ | with_reducible assumption | with_reducible refine Below.drew ?_ | with_reducible refine Below.drewN ?_ _ | with_reducible refine Below.alloc2 ?_ _ | with_reducible refine Below.alloc ?_ (by first | omega | (simp <;> omega)) _ | with_reducible refine Below.setCell ?_ (by first | omega | (simp <;> omega)) _ | with_reducible refine Below.step2 (by with_reducible assumption) ?_ | with_reducible refine Below.step (by with_reducible assumption) ?_ (by first | omega | (simp <;> omega))))); (simp; omega)); have HB1 := Lib.hid hbw; have HK1 := Lib.hid hk1; have ol1 := hk1.lt; obtain ⟨q0, q1, q2, q3, q4, q5⟩ := hk1.sixc; clear hk1 hb1 hbw))
                  refine region_goes (n := 10) (fun w' => (w'.cell? ⟨wr.heap.size, 0, none⟩ = some (.int .i64 xd) ∧ w'.cell? ⟨wr.heap.size, 1, none⟩ = some (.int .i64 xk) ∧ w'.cell? ⟨wr.heap.size, 2, none⟩ = some (.string xp) ∧ w'.cell? ⟨wr.heap.size, 3, none⟩ = some (.int .i64 xn) ∧ w'.cell? ⟨wr.heap.size, 4, none⟩ = some (.bool xs) ∧ w'.cell? ⟨wr.heap.size, 5, none⟩ = some (.bool xg))) [] (by kernel_rfl) rfl ?_
                  have hs1 := (Bk.drew HK1.out).sixc
                  refine goes_takeE (i := 0) (E := [2, 5, 8, 9]) (v := .slice (some ⟨b, o, none⟩) n c) rfl (by kernel_rfl) rfl (fun _ _ _ h => h) (by intro w' hw'; go_simp) hs1 ?_
                  refine goes_takeE (i := 1) (E := [2, 5, 8, 9]) (v := .int .i64 (k : Int)) rfl (by kernel_rfl) rfl (fun _ _ _ h => h) (by intro w' hw'; go_simp) hs1 ?_
                  refine goes_takeE (i := 2) (E := [5, 8, 9]) (v := .slice (some ⟨b, o, none⟩) k c) rfl (by kernel_rfl) rfl (fun _ _ _ h => h) (by intro w' hw'; go_simp) hs1 ?_
                  refine goes_takeE (i := 3) (E := [4, 5, 8, 9]) (v := .pointer (some ⟨wr.heap.size, 2, none⟩)) rfl (by kernel_rfl) rfl (fun _ _ _ h => h) (by intro w' hw'; go_simp) hs1 ?_
                  refine goes_takeE (i := 4) (E := [5, 8, 9]) (v := .string xp) rfl (by kernel_rfl) rfl (fun _ _ _ h => h) (by intro w' hw'; obtain ⟨z0, z1, z2, z3, z4, z5⟩ := hw'; go_simp) hs1 ?_
                  refine goes_takeE (i := 6) (E := [7, 8, 9]) (v := .pointer (some ⟨wr.heap.size, 3, none⟩)) rfl (by kernel_rfl) rfl (fun _ _ _ h => h) (by intro w' hw'; go_simp) hs1 ?_
                  refine goes_takeE (i := 7) (E := [8, 9]) (v := .int .i64 xn) rfl (by kernel_rfl) rfl (fun _ _ _ h => h) (by intro w' hw'; obtain ⟨z0, z1, z2, z3, z4, z5⟩ := hw'; go_simp) hs1 ?_
                  refine goes_call (i := 5) rfl (by kernel_rfl) ?_
                  go_wp2_with (go_at_call 41; refine (OPN.out _ (by have hb0 := HB1.out; exact Below.drew hb0)).mono ?_; rintro e w2 ⟨hb2, A2, m2, c2, rfl, hnum⟩; have hk2 : Bk w2 wr.heap.size 24 #[.int .i64 xd, .int .i64 xk, .string xp, .int .i64 xn, .bool xs, .bool xg] := (Bk.drew HK1.out).below hb2 (by simp; omega); have hbw : Below w.heap.size w w2 := (HB1.out.drew).trans (hb2.mono (by simp; exact HB1.out.size)); have HB2 := Lib.hid hbw; have HS2 := Lib.hid hk2.sixc; have HNU := Lib.hid hnum; clear hk2 hb2 hbw hnum)
                  refine behind_ok ⟨HS2.out, ?_⟩
                  refine goes_call (i := 8) rfl (by kernel_rfl) ?_
                  go_wp2_with (go_at_call 40; refine (has_any _ _ _ _ _ xn _ HNU.out).mono ?_; rw [HOL.out]; rintro e w' ⟨rfl, rfl⟩)
                  refine behind_ok ⟨HS2.out, ?_⟩
                  refine goes_takeE (i := 9) (E := []) (v := .bool v) rfl (by kernel_rfl) rfl (fun _ _ _ h => h) (by intro w' hw'; go_simp) HS2.out ?_
                  refine goes_done (by kernel_rfl) ?_
                  obtain ⟨s0, s1, s2, s3, s4, s5⟩ := HS2.out
                  clear hs1
                  by_cases h4 : xk = 4
                  · have h4b : (xk == 4) = true := by simpa using h4
                    have h5b : (xk == 5) = false := by simp; omega
                    have h5 : ¬ xk = 5 := by omega
                    cases v
                    · have HE := Lib.hid (HE.out.trans (by simp [eEr, hd, h4] : _ = (0 : Int)))
                      clear h4 h5
                      go_wp2
                      go_roundw
                      case rel => exact ⟨k + 1, by omega, by go_num, Lib.hid (rGo_next HX.out HV.out HE.out), HB2.out⟩
                      case measure => simp [intOf]; omega
                    · have HE := Lib.hid (HE.out.trans (by simp [eEr, hd, h4] : _ = (5 : Int)))
                      clear h4 h5
                      go_wp2
                      go_ret
                      refine ⟨by have hb0 := HB2.out; exact (by repeat (first | with_reducible exact Below.refl _ _ | with_reducible assumption | with_reducible refine Below.drew ?_ | with_reducible refine Below.drewN ?_ _ | with_reducible refine Below.alloc2 ?_ _ | with_reducible refine Below.alloc ?_ (by first | omega | (simp <;> omega)) _ | with_reducible refine Below.setCell ?_ (by first | omega | (simp <;> omega)) _ | with_reducible refine Below.step2 (by with_reducible assumption) ?_ | with_reducible refine Below.step (by with_reducible assumption) ?_ (by first | omega | (simp <;> omega)))), ret_int ?_⟩
                      rw [← HR.out]
                      exact (rGo_bad (E := 5) HX.out HV.out HE.out (by decide)).symm
                  · have h4b : (xk == 4) = false := by simpa using h4
                    by_cases h5 : xk = 5
                    · have h5b : (xk == 5) = true := by simpa using h5
                      cases v
                      · have HE := Lib.hid (HE.out.trans (by simp [eEr, hd, h5] : _ = (6 : Int)))
                        clear h4 h5
                        go_wp2
                        go_ret
                        refine ⟨by have hb0 := HB2.out; exact (by repeat (first | with_reducible exact Below.refl _ _ | with_reducible assumption | with_reducible refine Below.drew ?_ | with_reducible refine Below.drewN ?_ _ | with_reducible refine Below.alloc2 ?_ _ | with_reducible refine Below.alloc ?_ (by first | omega | (simp <;> omega)) _ | with_reducible refine Below.setCell ?_ (by first | omega | (simp <;> omega)) _ | with_reducible refine Below.step2 (by with_reducible assumption) ?_ | with_reducible refine Below.step (by with_reducible assumption) ?_ (by first | omega | (simp <;> omega)))), ret_int ?_⟩
                        rw [← HR.out]
                        exact (rGo_bad (E := 6) HX.out HV.out HE.out (by decide)).symm
                      · have HE := Lib.hid (HE.out.trans (by simp [eEr, hd, h5] : _ = (0 : Int)))
                        clear h4 h5
                        go_wp2
                        go_roundw
                        case rel => exact ⟨k + 1, by omega, by go_num, Lib.hid (rGo_next HX.out HV.out HE.out), HB2.out⟩
                        case measure => simp [intOf]; omega
                    · have h5b : (xk == 5) = false := by simpa using h5
                      have HE := Lib.hid (HE.out.trans (by simp [eEr, hd, h4, h5] : _ = (0 : Int)))
                      clear h4 h5
                      go_wp2
                      go_roundw
                      case rel => exact ⟨k + 1, by omega, by go_num, Lib.hid (rGo_next HX.out HV.out HE.out), HB2.out⟩
                      case measure => simp [intOf]; omega))
    · go_wp2
      go_ret
      refine ⟨HB.out, ret_int ?_⟩
      rw [← HR.out]
      exact (rGo_end (by rw [HLEN.out]; omega) HV.out).symm

end Go.Proofs.Ytgjjjnofdjhikaa
