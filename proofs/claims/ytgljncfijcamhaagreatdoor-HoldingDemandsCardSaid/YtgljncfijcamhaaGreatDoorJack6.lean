/- Chapter 6, walks: CheckJack. -/
import Derived.Test.YtgljncfijcamhaaGreatDoorStep6
import Derived.Test.YtgljncfijcamhaaGreatDoorAwake6
import Derived.Test.YtgljncfijcamhaaGreatDoorOwn6
namespace Go.Proofs.YtgljncfijcamhaaGreatDoor
open Go.RowKit

def jackErr (a b c : Int) : Int := if inR 0 10000 a && (inR 0 10000 b && (inR 0 10000 c && decide (a ≤ b))) then 0 else 2
set_option maxHeartbeats 4000000 in
theorem refJack_any (a b c : Int) (w : World) : Calls Tryz.prog 58 #[.agg #[.int .i64 a, .int .i64 b, .int .i64 c]] w fun e w' => Below w.heap.size w w' ∧ e = .returned (.int .i64 (jackErr a b c)) := by
  unfold jackErr
  obtain ⟨b1, e1⟩ : ∃ v, inR 0 10000 a = v := ⟨_, rfl⟩
  obtain ⟨b2, e2⟩ : ∃ v, inR 0 10000 b = v := ⟨_, rfl⟩
  obtain ⟨b3, e3⟩ : ∃ v, inR 0 10000 c = v := ⟨_, rfl⟩
  rw [e1, e2, e3]
  have E1 := Lib.hid (within_b e1)
  have E2 := Lib.hid (within_b e2)
  have E3 := Lib.hid (within_b e3)
  clear e1 e2 e3
  cases b1
  · go_enter Tryz.func58, Tryz.ntmps58
    go_wp2_with (first
        | (go_at_call 24; with_reducible refine (E1.out _).mono ?_; rintro e w' ⟨rfl, rfl⟩)
        | (go_at_call 24; with_reducible refine (E2.out _).mono ?_; rintro e w' ⟨rfl, rfl⟩)
        | (go_at_call 24; with_reducible refine (E3.out _).mono ?_; rintro e w' ⟨rfl, rfl⟩))
    go_ret
    exact ⟨(by repeat (first | with_reducible exact Below.refl _ _ | with_reducible assumption | with_reducible refine Below.drew ?_ | with_reducible refine Below.drewN ?_ _ | with_reducible refine Below.alloc2 ?_ _ | with_reducible refine Below.alloc ?_ (by first | omega | (simp <;> omega)) _ | with_reducible refine Below.setCell ?_ (by first | omega | (simp <;> omega)) _ | with_reducible refine Below.step2 (by with_reducible assumption) ?_ | with_reducible refine Below.step (by with_reducible assumption) ?_ (by first | omega | (simp <;> omega)))), rfl⟩
  cases b2
  · go_enter Tryz.func58, Tryz.ntmps58
    go_wp2_with (first
        | (go_at_call 24; with_reducible refine (E1.out _).mono ?_; rintro e w' ⟨rfl, rfl⟩)
        | (go_at_call 24; with_reducible refine (E2.out _).mono ?_; rintro e w' ⟨rfl, rfl⟩)
        | (go_at_call 24; with_reducible refine (E3.out _).mono ?_; rintro e w' ⟨rfl, rfl⟩))
    go_ret
    exact ⟨(by repeat (first | with_reducible exact Below.refl _ _ | with_reducible assumption | with_reducible refine Below.drew ?_ | with_reducible refine Below.drewN ?_ _ | with_reducible refine Below.alloc2 ?_ _ | with_reducible refine Below.alloc ?_ (by first | omega | (simp <;> omega)) _ | with_reducible refine Below.setCell ?_ (by first | omega | (simp <;> omega)) _ | with_reducible refine Below.step2 (by with_reducible assumption) ?_ | with_reducible refine Below.step (by with_reducible assumption) ?_ (by first | omega | (simp <;> omega)))), rfl⟩
  cases b3
  · go_enter Tryz.func58, Tryz.ntmps58
    go_wp2_with (first
        | (go_at_call 24; with_reducible refine (E1.out _).mono ?_; rintro e w' ⟨rfl, rfl⟩)
        | (go_at_call 24; with_reducible refine (E2.out _).mono ?_; rintro e w' ⟨rfl, rfl⟩)
        | (go_at_call 24; with_reducible refine (E3.out _).mono ?_; rintro e w' ⟨rfl, rfl⟩))
    go_ret
    exact ⟨(by repeat (first | with_reducible exact Below.refl _ _ | with_reducible assumption | with_reducible refine Below.drew ?_ | with_reducible refine Below.drewN ?_ _ | with_reducible refine Below.alloc2 ?_ _ | with_reducible refine Below.alloc ?_ (by first | omega | (simp <;> omega)) _ | with_reducible refine Below.setCell ?_ (by first | omega | (simp <;> omega)) _ | with_reducible refine Below.step2 (by with_reducible assumption) ?_ | with_reducible refine Below.step (by with_reducible assumption) ?_ (by first | omega | (simp <;> omega)))), rfl⟩
  by_cases h4 : a ≤ b
  · have h5 : ¬ b < a := by omega
    rw [decide_eq_true h4]
    clear h4
    (
        go_enter Tryz.func58, Tryz.ntmps58
        go_wp2_with (first
            | (go_at_call 24; with_reducible refine (E1.out _).mono ?_; rintro e w' ⟨rfl, rfl⟩)
            | (go_at_call 24; with_reducible refine (E2.out _).mono ?_; rintro e w' ⟨rfl, rfl⟩)
            | (go_at_call 24; with_reducible refine (E3.out _).mono ?_; rintro e w' ⟨rfl, rfl⟩))
        go_ret
        exact ⟨(by repeat (first | with_reducible exact Below.refl _ _ | with_reducible assumption | with_reducible refine Below.drew ?_ | with_reducible refine Below.drewN ?_ _ | with_reducible refine Below.alloc2 ?_ _ | with_reducible refine Below.alloc ?_ (by first | omega | (simp <;> omega)) _ | with_reducible refine Below.setCell ?_ (by first | omega | (simp <;> omega)) _ | with_reducible refine Below.step2 (by with_reducible assumption) ?_ | with_reducible refine Below.step (by with_reducible assumption) ?_ (by first | omega | (simp <;> omega)))), rfl⟩)
  · have h5 : b < a := by omega
    rw [decide_eq_false h4]
    clear h4
    (
        go_enter Tryz.func58, Tryz.ntmps58
        go_wp2_with (first
            | (go_at_call 24; with_reducible refine (E1.out _).mono ?_; rintro e w' ⟨rfl, rfl⟩)
            | (go_at_call 24; with_reducible refine (E2.out _).mono ?_; rintro e w' ⟨rfl, rfl⟩)
            | (go_at_call 24; with_reducible refine (E3.out _).mono ?_; rintro e w' ⟨rfl, rfl⟩))
        go_ret
        exact ⟨(by repeat (first | with_reducible exact Below.refl _ _ | with_reducible assumption | with_reducible refine Below.drew ?_ | with_reducible refine Below.drewN ?_ _ | with_reducible refine Below.alloc2 ?_ _ | with_reducible refine Below.alloc ?_ (by first | omega | (simp <;> omega)) _ | with_reducible refine Below.setCell ?_ (by first | omega | (simp <;> omega)) _ | with_reducible refine Below.step2 (by with_reducible assumption) ?_ | with_reducible refine Below.step (by with_reducible assumption) ?_ (by first | omega | (simp <;> omega)))), rfl⟩)

end Go.Proofs.YtgljncfijcamhaaGreatDoor
