/- Walks: (table).code. -/
import Derived.Test.YtkcbfkflkepfeaaTableFn
namespace Go.Proofs.Ytkcbfkflkepfeaa
open Go.RowKit

set_option maxHeartbeats 2000000 in
theorem tabCode_any (PA TA : Option Addr) (pn pc tn tc N : Nat) (u x : Int) (T : List Int) (w : World) (h : Ints w w.heap.size TA tn tc T) (hu : 1 ≤ u) (hu2 : u ≤ 10000) (hx : 0 ≤ x) (hN : x.tdiv u = (N : Int)) (hNt : N < tn) :
    Calls Try.prog 44 #[.agg #[.int .i64 u, .slice PA pn pc, .slice TA tn tc], .int .i64 x] w fun e w' => Below w.heap.size w w' ∧ e = .returned (.int .i64 (if x.tmod u = 0 then T.getD N 0 else -1)) := by
  have hcap := h.nums.cap
  have hmax := h.nums.max
  have hu0 : ¬ u = 0 := by omega
  have hrw : IntKind.i64.wrap (x.tmod u) = x.tmod u := IntWalk.i64_in _ (by have := Int.tmod_lt_of_pos x (show 0 < u by omega); have := Int.tmod_nonneg u hx; omega)
  have hquo : IntKind.i64.wrap (x.tdiv u) = (N : Int) := by rw [hN]; exact IntWalk.i64_in _ (by omega)
  have hxd : decide (x < 0) = false := by simp; omega
  obtain ⟨b, o, y, rfl, hbb, hy, c0⟩ := h.nums.at_ hNt
  have HY := Lib.hid (getD_of hy)
  have ob : b < w.heap.size + 1 := by omega
  have hNz : (N : Int) < (tn : Int) := by omega
  have hNd : decide ((tn : Int) ≤ (N : Int)) = false := by simp; omega
  clear h hy hx hu hu2
  by_cases hr : x.tmod u = 0
  · rw [if_pos hr]
    have hrb : (x.tmod u == 0) = true := by simpa using hr
    have hrn : (x.tmod u != 0) = false := by simpa using hr
    clear hr
    go_enter Try.func44, Try.ntmps44
    go_wp2
    go_quiet (fail)
    go_wp2
    go_quiet (fail)
    go_wp2
    go_ret
    exact ⟨(by repeat (first | with_reducible exact Below.refl _ _ | with_reducible assumption | with_reducible refine Below.drew ?_ | with_reducible refine Below.drewN ?_ _ | with_reducible refine Below.alloc2 ?_ _ | with_reducible refine Below.alloc ?_ (by first | omega | (simp <;> omega)) _ | with_reducible refine Below.setCell ?_ (by first | omega | (simp <;> omega)) _ | with_reducible refine Below.step2 (by with_reducible assumption) ?_ | with_reducible refine Below.step (by with_reducible assumption) ?_ (by first | omega | (simp <;> omega)))), ret_int HY.out.symm⟩
  · rw [if_neg hr]
    have hrb : (x.tmod u == 0) = false := by simpa using hr
    have hrn : (x.tmod u != 0) = true := by simpa using hr
    clear hr
    go_enter Try.func44, Try.ntmps44
    go_wp2
    go_quiet (fail)
    go_wp2
    go_ret
    exact ⟨(by repeat (first | with_reducible exact Below.refl _ _ | with_reducible assumption | with_reducible refine Below.drew ?_ | with_reducible refine Below.drewN ?_ _ | with_reducible refine Below.alloc2 ?_ _ | with_reducible refine Below.alloc ?_ (by first | omega | (simp <;> omega)) _ | with_reducible refine Below.setCell ?_ (by first | omega | (simp <;> omega)) _ | with_reducible refine Below.step2 (by with_reducible assumption) ?_ | with_reducible refine Below.step (by with_reducible assumption) ?_ (by first | omega | (simp <;> omega)))), rfl⟩

end Go.Proofs.Ytkcbfkflkepfeaa
