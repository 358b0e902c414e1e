/- Chapter 6, walks: Few; what it is for an input to be valid. -/
import Derived.Test.YtgljncfijcamhaaGreatDoorRefTies6
import Derived.Test.YtgljncfijcamhaaGreatDoorAwake6
namespace Go.Proofs.YtgljncfijcamhaaGreatDoor
open Go.RowKit

theorem gErr_zero {b1 b2 b3 b4 b5 b6 b7 : Bool} (h : gErr b1 b2 b3 b4 b5 b6 b7 = 0) : b1 = true ∧ b2 = true ∧ b3 = true ∧ b4 = true ∧ b5 = true ∧ b6 = true ∧ b7 = true := by
  cases b1 <;> cases b2 <;> cases b3 <;> cases b4 <;> cases b5 <;> cases b6 <;> cases b7 <;> first | exact ⟨rfl, rfl, rfl, rfl, rfl, rfl, rfl⟩ | (exfalso; revert h; decide)
theorem gridErr_sizes {f : Int} {a lv : List Int} (h : gridErr f a lv = 0) : 1 ≤ a.length ∧ a.length ≤ 60 ∧ 1 ≤ lv.length ∧ lv.length ≤ 30 := by
  obtain ⟨-, h2, h3, -⟩ := gErr_zero h
  simp only [inR, decide_eq_true_eq] at h2 h3
  omega

theorem tiesErr_zero {n m : Nat} {l : List (Int × Int)} (h : tiesErr n m l = 0) : l.any (fun t => !tieIn n m t) = false := by
  unfold tiesErr at h
  split at h
  · cases h
  · split at h
    · cases h
    · rename_i hx
      simpa using hx


def fewB (n m : Nat) (G : Int) : Bool := decide (n ≤ 100) && (decide (m ≤ 100) && ((decide (n ≤ 6) && decide (m ≤ 6)) || decide (G ≠ 0)))
set_option maxHeartbeats 4000000 in
theorem few_any (f : Int) (A A2 : Option Addr) (n c m c2 : Nat) (G : Int) (w : World) (c2' : ∀ w', Below w.heap.size w w' → Calls Tryz.prog 43 #[.agg #[.int .i64 f, .slice A n c, .slice A2 m c2]] w' fun e w'' => Below w'.heap.size w' w'' ∧ e = .returned (.int .i64 G)) :
    Calls Tryz.prog 9 #[.agg #[.int .i64 f, .slice A n c, .slice A2 m c2]] w fun e w' => Below w.heap.size w w' ∧ e = .returned (.bool (fewB n m G)) := by
  have C2 := Lib.hid c2'
  clear c2'
  unfold fewB
  by_cases h1 : n ≤ 100
  · rw [decide_eq_true h1]
    have i1 : ¬ (100 : Int) < (n : Int) := by omega
    by_cases h2 : m ≤ 100
    · rw [decide_eq_true h2]
      have i2 : ¬ (100 : Int) < (m : Int) := by omega
      clear h1 h2
      by_cases h3 : n ≤ 6
      · rw [decide_eq_true h3]
        have i3 : (n : Int) ≤ 6 := by omega
        clear h3
        by_cases h4 : m ≤ 6
        · rw [decide_eq_true h4]
          have i4 : (m : Int) ≤ 6 := by omega
          clear h4
          (
              go_enter Tryz.func9, Tryz.ntmps9
              go_wp2_with (go_at_call 43; with_reducible refine (C2.out _ ?_).mono ?_; (focus (exact (by repeat (first | with_reducible exact Below.refl _ _ | with_reducible assumption | with_reducible refine Below.drew ?_ | with_reducible refine Below.drewN ?_ _ | with_reducible refine Below.alloc2 ?_ _ | with_reducible refine Below.alloc ?_ (by first | omega | (simp <;> omega)) _ | with_reducible refine Below.setCell ?_ (by first | omega | (simp <;> omega)) _ | with_reducible refine Below.step2 (by with_reducible assumption) ?_ | with_reducible refine Below.step (by with_reducible assumption) ?_ (by first | omega | (simp <;> omega)))))); rintro e w1 ⟨hb1, rfl⟩)
              go_ret
              exact ⟨(by repeat (first | with_reducible exact Below.refl _ _ | with_reducible assumption | with_reducible refine Below.drew ?_ | with_reducible refine Below.drewN ?_ _ | with_reducible refine Below.alloc2 ?_ _ | with_reducible refine Below.alloc ?_ (by first | omega | (simp <;> omega)) _ | with_reducible refine Below.setCell ?_ (by first | omega | (simp <;> omega)) _ | with_reducible refine Below.step2 (by with_reducible assumption) ?_ | with_reducible refine Below.step (by with_reducible assumption) ?_ (by first | omega | (simp <;> omega)))), rfl⟩)
        · rw [decide_eq_false h4]
          have i4 : ¬ (m : Int) ≤ 6 := by omega
          clear h4
          by_cases hg : G = 0
          · subst hg
            (
                go_enter Tryz.func9, Tryz.ntmps9
                go_wp2_with (go_at_call 43; with_reducible refine (C2.out _ ?_).mono ?_; (focus (exact (by repeat (first | with_reducible exact Below.refl _ _ | with_reducible assumption | with_reducible refine Below.drew ?_ | with_reducible refine Below.drewN ?_ _ | with_reducible refine Below.alloc2 ?_ _ | with_reducible refine Below.alloc ?_ (by first | omega | (simp <;> omega)) _ | with_reducible refine Below.setCell ?_ (by first | omega | (simp <;> omega)) _ | with_reducible refine Below.step2 (by with_reducible assumption) ?_ | with_reducible refine Below.step (by with_reducible assumption) ?_ (by first | omega | (simp <;> omega)))))); rintro e w1 ⟨hb1, rfl⟩)
                go_ret
                exact ⟨(by repeat (first | with_reducible exact Below.refl _ _ | with_reducible assumption | with_reducible refine Below.drew ?_ | with_reducible refine Below.drewN ?_ _ | with_reducible refine Below.alloc2 ?_ _ | with_reducible refine Below.alloc ?_ (by first | omega | (simp <;> omega)) _ | with_reducible refine Below.setCell ?_ (by first | omega | (simp <;> omega)) _ | with_reducible refine Below.step2 (by with_reducible assumption) ?_ | with_reducible refine Below.step (by with_reducible assumption) ?_ (by first | omega | (simp <;> omega)))), rfl⟩)
          · have hgb : (G != 0) = true := by simpa using hg
            rw [decide_eq_true hg]
            clear hg
            (
                go_enter Tryz.func9, Tryz.ntmps9
                go_wp2_with (go_at_call 43; with_reducible refine (C2.out _ ?_).mono ?_; (focus (exact (by repeat (first | with_reducible exact Below.refl _ _ | with_reducible assumption | with_reducible refine Below.drew ?_ | with_reducible refine Below.drewN ?_ _ | with_reducible refine Below.alloc2 ?_ _ | with_reducible refine Below.alloc ?_ (by first | omega | (simp <;> omega)) _ | with_reducible refine Below.setCell ?_ (by first | omega | (simp <;> omega)) _ | with_reducible refine Below.step2 (by with_reducible assumption) ?_ | with_reducible refine Below.step (by with_reducible assumption) ?_ (by first | omega | (simp <;> omega)))))); rintro e w1 ⟨hb1, rfl⟩)
                go_ret
                exact ⟨(by repeat (first | with_reducible exact Below.refl _ _ | with_reducible assumption | with_reducible refine Below.drew ?_ | with_reducible refine Below.drewN ?_ _ | with_reducible refine Below.alloc2 ?_ _ | with_reducible refine Below.alloc ?_ (by first | omega | (simp <;> omega)) _ | with_reducible refine Below.setCell ?_ (by first | omega | (simp <;> omega)) _ | with_reducible refine Below.step2 (by with_reducible assumption) ?_ | with_reducible refine Below.step (by with_reducible assumption) ?_ (by first | omega | (simp <;> omega)))), rfl⟩)
      · rw [decide_eq_false h3]
        have i3 : ¬ (n : Int) ≤ 6 := by omega
        clear h3
        by_cases hg : G = 0
        · subst hg
          (
              go_enter Tryz.func9, Tryz.ntmps9
              go_wp2_with (go_at_call 43; with_reducible refine (C2.out _ ?_).mono ?_; (focus (exact (by repeat (first | with_reducible exact Below.refl _ _ | with_reducible assumption | with_reducible refine Below.drew ?_ | with_reducible refine Below.drewN ?_ _ | with_reducible refine Below.alloc2 ?_ _ | with_reducible refine Below.alloc ?_ (by first | omega | (simp <;> omega)) _ | with_reducible refine Below.setCell ?_ (by first | omega | (simp <;> omega)) _ | with_reducible refine Below.step2 (by with_reducible assumption) ?_ | with_reducible refine Below.step (by with_reducible assumption) ?_ (by first | omega | (simp <;> omega)))))); rintro e w1 ⟨hb1, rfl⟩)
              go_ret
              exact ⟨(by repeat (first | with_reducible exact Below.refl _ _ | with_reducible assumption | with_reducible refine Below.drew ?_ | with_reducible refine Below.drewN ?_ _ | with_reducible refine Below.alloc2 ?_ _ | with_reducible refine Below.alloc ?_ (by first | omega | (simp <;> omega)) _ | with_reducible refine Below.setCell ?_ (by first | omega | (simp <;> omega)) _ | with_reducible refine Below.step2 (by with_reducible assumption) ?_ | with_reducible refine Below.step (by with_reducible assumption) ?_ (by first | omega | (simp <;> omega)))), rfl⟩)
        · have hgb : (G != 0) = true := by simpa using hg
          rw [decide_eq_true hg]
          clear hg
          (
              go_enter Tryz.func9, Tryz.ntmps9
              go_wp2_with (go_at_call 43; with_reducible refine (C2.out _ ?_).mono ?_; (focus (exact (by repeat (first | with_reducible exact Below.refl _ _ | with_reducible assumption | with_reducible refine Below.drew ?_ | with_reducible refine Below.drewN ?_ _ | with_reducible refine Below.alloc2 ?_ _ | with_reducible refine Below.alloc ?_ (by first | omega | (simp <;> omega)) _ | with_reducible refine Below.setCell ?_ (by first | omega | (simp <;> omega)) _ | with_reducible refine Below.step2 (by with_reducible assumption) ?_ | with_reducible refine Below.step (by with_reducible assumption) ?_ (by first | omega | (simp <;> omega)))))); rintro e w1 ⟨hb1, rfl⟩)
              go_ret
              exact ⟨(by repeat (first | with_reducible exact Below.refl _ _ | with_reducible assumption | with_reducible refine Below.drew ?_ | with_reducible refine Below.drewN ?_ _ | with_reducible refine Below.alloc2 ?_ _ | with_reducible refine Below.alloc ?_ (by first | omega | (simp <;> omega)) _ | with_reducible refine Below.setCell ?_ (by first | omega | (simp <;> omega)) _ | with_reducible refine Below.step2 (by with_reducible assumption) ?_ | with_reducible refine Below.step (by with_reducible assumption) ?_ (by first | omega | (simp <;> omega)))), rfl⟩)
    · rw [decide_eq_false h2]
      have i2 : (100 : Int) < (m : Int) := by omega
      clear h1 h2
      (
          go_enter Tryz.func9, Tryz.ntmps9
          go_wp2_with (go_at_call 43; with_reducible refine (C2.out _ ?_).mono ?_; (focus (exact (by repeat (first | with_reducible exact Below.refl _ _ | with_reducible assumption | with_reducible refine Below.drew ?_ | with_reducible refine Below.drewN ?_ _ | with_reducible refine Below.alloc2 ?_ _ | with_reducible refine Below.alloc ?_ (by first | omega | (simp <;> omega)) _ | with_reducible refine Below.setCell ?_ (by first | omega | (simp <;> omega)) _ | with_reducible refine Below.step2 (by with_reducible assumption) ?_ | with_reducible refine Below.step (by with_reducible assumption) ?_ (by first | omega | (simp <;> omega)))))); rintro e w1 ⟨hb1, rfl⟩)
          go_ret
          exact ⟨(by repeat (first | with_reducible exact Below.refl _ _ | with_reducible assumption | with_reducible refine Below.drew ?_ | with_reducible refine Below.drewN ?_ _ | with_reducible refine Below.alloc2 ?_ _ | with_reducible refine Below.alloc ?_ (by first | omega | (simp <;> omega)) _ | with_reducible refine Below.setCell ?_ (by first | omega | (simp <;> omega)) _ | with_reducible refine Below.step2 (by with_reducible assumption) ?_ | with_reducible refine Below.step (by with_reducible assumption) ?_ (by first | omega | (simp <;> omega)))), rfl⟩)
  · rw [decide_eq_false h1]
    have i1 : (100 : Int) < (n : Int) := by omega
    clear h1
    (
        go_enter Tryz.func9, Tryz.ntmps9
        go_wp2_with (go_at_call 43; with_reducible refine (C2.out _ ?_).mono ?_; (focus (exact (by repeat (first | with_reducible exact Below.refl _ _ | with_reducible assumption | with_reducible refine Below.drew ?_ | with_reducible refine Below.drewN ?_ _ | with_reducible refine Below.alloc2 ?_ _ | with_reducible refine Below.alloc ?_ (by first | omega | (simp <;> omega)) _ | with_reducible refine Below.setCell ?_ (by first | omega | (simp <;> omega)) _ | with_reducible refine Below.step2 (by with_reducible assumption) ?_ | with_reducible refine Below.step (by with_reducible assumption) ?_ (by first | omega | (simp <;> omega)))))); rintro e w1 ⟨hb1, rfl⟩)
        go_ret
        exact ⟨(by repeat (first | with_reducible exact Below.refl _ _ | with_reducible assumption | with_reducible refine Below.drew ?_ | with_reducible refine Below.drewN ?_ _ | with_reducible refine Below.alloc2 ?_ _ | with_reducible refine Below.alloc ?_ (by first | omega | (simp <;> omega)) _ | with_reducible refine Below.setCell ?_ (by first | omega | (simp <;> omega)) _ | with_reducible refine Below.step2 (by with_reducible assumption) ?_ | with_reducible refine Below.step (by with_reducible assumption) ?_ (by first | omega | (simp <;> omega)))), rfl⟩)

end Go.Proofs.YtgljncfijcamhaaGreatDoor
