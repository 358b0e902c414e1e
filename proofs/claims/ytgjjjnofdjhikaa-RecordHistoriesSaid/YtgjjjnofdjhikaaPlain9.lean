/- Chapter 9, walks: what is plain, of the reference. -/
import Derived.Test.YtgjjjnofdjhikaaEvent9
namespace Go.Proofs.Ytgjjjnofdjhikaa
open Go.RowKit

set_option maxHeartbeats 4000000 in
theorem plain_any (xd xk xn : Int) (xp : ByteArray) (xs xg : Bool) (w : World) (hk : inR 0 6 xk = true) : Calls Try.prog 39 #[.agg #[.int .i64 xd, .int .i64 xk, .string xp, .int .i64 xn, .bool xs, .bool xg]] w fun e w' => Below w.heap.size w w' ∧ e = .returned (.bool (plB xk xn xs xg)) := by
  by_cases hn : xn = 0
  · subst hn
    rcases seven hk with rfl | rfl | rfl | rfl | rfl | rfl | rfl <;> cases xs <;> cases xg
    all_goals (
    go_enter Try.func39, Try.ntmps39
    go_wp2
    go_ret
    exact ⟨(by repeat (first | with_reducible exact Below.refl _ _ | with_reducible assumption | with_reducible refine Below.drew ?_ | with_reducible refine Below.drewN ?_ _ | with_reducible refine Below.alloc2 ?_ _ | with_reducible refine Below.alloc ?_ (by first | omega | (simp <;> omega)) _ | with_reducible refine Below.setCell ?_ (by first | omega | (simp <;> omega)) _ | with_reducible refine Below.step2 (by with_reducible assumption) ?_ | with_reducible refine Below.step (by with_reducible assumption) ?_ (by first | omega | (simp <;> omega)))), ret_bool (by simp [plB, nmN, nmP, nmG])⟩)
  · have hnb : (xn == 0) = false := by simpa using hn
    have hn : ¬ 0 = xn := fun e => hn e.symm
    rcases seven hk with rfl | rfl | rfl | rfl | rfl | rfl | rfl <;> cases xs <;> cases xg
    all_goals (
    go_enter Try.func39, Try.ntmps39
    go_wp2
    go_ret
    exact ⟨(by repeat (first | with_reducible exact Below.refl _ _ | with_reducible assumption | with_reducible refine Below.drew ?_ | with_reducible refine Below.drewN ?_ _ | with_reducible refine Below.alloc2 ?_ _ | with_reducible refine Below.alloc ?_ (by first | omega | (simp <;> omega)) _ | with_reducible refine Below.setCell ?_ (by first | omega | (simp <;> omega)) _ | with_reducible refine Below.step2 (by with_reducible assumption) ?_ | with_reducible refine Below.step (by with_reducible assumption) ?_ (by first | omega | (simp <;> omega)))), ret_bool (by simp [plB, nmN, nmP, nmG, hn])⟩)

end Go.Proofs.Ytgjjjnofdjhikaa
