/- Walks: whether two sides meet, of both sides. -/
import Derived.Test.YtbfbjpnmgcpjlaaAlt
namespace Go.Proofs.Ytbfbjpnmgcpjlaa
open Go.RowKit

/-- The segments from a to b and from c to d, parallel to axes, have a common point. -/
def meetP (a b c d : Int × Int) : Bool :=
  decide (min a.1 b.1 ≤ max c.1 d.1 ∧ min c.1 d.1 ≤ max a.1 b.1 ∧ min a.2 b.2 ≤ max c.2 d.2 ∧ min c.2 d.2 ≤ max a.2 b.2)

set_option maxHeartbeats 2000000 in
theorem meet_any (ax ay bx by_ l1 d1 cx cy dx dy l2 d2 : Int) (w : World) :
    Calls Try.prog 76 #[.agg #[.int .i64 ax, .int .i64 ay, .int .i64 bx, .int .i64 by_, .int .i64 l1, .int .i64 d1], .agg #[.int .i64 cx, .int .i64 cy, .int .i64 dx, .int .i64 dy, .int .i64 l2, .int .i64 d2]] w
      fun e w' => Below w.heap.size w w' ∧ e = .returned (.bool (meetP (ax, ay) (bx, by_) (cx, cy) (dx, dy))) := by
  have hr : meetP (ax, ay) (bx, by_) (cx, cy) (dx, dy) = decide (min ax bx ≤ max cx dx ∧ min cx dx ≤ max ax bx ∧ min ay by_ ≤ max cy dy ∧ min cy dy ≤ max ay by_) := rfl
  have HR := Lib.hid hr
  clear hr
  rcases Int.lt_or_le (max cx dx) (min ax bx) with h1 | h1
  · have he : meetP (ax, ay) (bx, by_) (cx, cy) (dx, dy) = false := by rw [HR.out, decide_eq_false_iff_not]; omega
    rw [he]
    clear he
    go_enter Try.func76, Try.ntmps76; simp only [List.append_eq, List.cons_append, List.nil_append]
    go_wp2
    go_ret
    exact ⟨(by repeat (first | with_reducible exact Below.refl _ _ | with_reducible assumption | with_reducible refine Below.drew ?_ | with_reducible refine Below.drewN ?_ _ | with_reducible refine Below.alloc2 ?_ _ | with_reducible refine Below.alloc ?_ (by first | omega | (simp <;> omega)) _ | with_reducible refine Below.setCell ?_ (by first | omega | (simp <;> omega)) _ | with_reducible refine Below.step2 (by with_reducible assumption) ?_ | with_reducible refine Below.step (by with_reducible assumption) ?_ (by first | omega | (simp <;> omega)))), ret_bool (by first | rfl | (simp; omega))⟩
  · rcases Int.lt_or_le (max ax bx) (min cx dx) with h2 | h2
    · have he : meetP (ax, ay) (bx, by_) (cx, cy) (dx, dy) = false := by rw [HR.out, decide_eq_false_iff_not]; omega
      rw [he]
      clear he
      go_enter Try.func76, Try.ntmps76; simp only [List.append_eq, List.cons_append, List.nil_append]
      go_wp2
      go_ret
      exact ⟨(by repeat (first | with_reducible exact Below.refl _ _ | with_reducible assumption | with_reducible refine Below.drew ?_ | with_reducible refine Below.drewN ?_ _ | with_reducible refine Below.alloc2 ?_ _ | with_reducible refine Below.alloc ?_ (by first | omega | (simp <;> omega)) _ | with_reducible refine Below.setCell ?_ (by first | omega | (simp <;> omega)) _ | with_reducible refine Below.step2 (by with_reducible assumption) ?_ | with_reducible refine Below.step (by with_reducible assumption) ?_ (by first | omega | (simp <;> omega)))), ret_bool (by first | rfl | (simp; omega))⟩
    · rcases Int.lt_or_le (max cy dy) (min ay by_) with h3 | h3
      · have he : meetP (ax, ay) (bx, by_) (cx, cy) (dx, dy) = false := by rw [HR.out, decide_eq_false_iff_not]; omega
        rw [he]
        clear he
        go_enter Try.func76, Try.ntmps76; simp only [List.append_eq, List.cons_append, List.nil_append]
        go_wp2
        go_ret
        exact ⟨(by repeat (first | with_reducible exact Below.refl _ _ | with_reducible assumption | with_reducible refine Below.drew ?_ | with_reducible refine Below.drewN ?_ _ | with_reducible refine Below.alloc2 ?_ _ | with_reducible refine Below.alloc ?_ (by first | omega | (simp <;> omega)) _ | with_reducible refine Below.setCell ?_ (by first | omega | (simp <;> omega)) _ | with_reducible refine Below.step2 (by with_reducible assumption) ?_ | with_reducible refine Below.step (by with_reducible assumption) ?_ (by first | omega | (simp <;> omega)))), ret_bool (by first | rfl | (simp; omega))⟩
      · rcases Int.lt_or_le (max ay by_) (min cy dy) with h4 | h4
        · have he : meetP (ax, ay) (bx, by_) (cx, cy) (dx, dy) = false := by rw [HR.out, decide_eq_false_iff_not]; omega
          rw [he]
          clear he
          go_enter Try.func76, Try.ntmps76; simp only [List.append_eq, List.cons_append, List.nil_append]
          go_wp2
          go_ret
          exact ⟨(by repeat (first | with_reducible exact Below.refl _ _ | with_reducible assumption | with_reducible refine Below.drew ?_ | with_reducible refine Below.drewN ?_ _ | with_reducible refine Below.alloc2 ?_ _ | with_reducible refine Below.alloc ?_ (by first | omega | (simp <;> omega)) _ | with_reducible refine Below.setCell ?_ (by first | omega | (simp <;> omega)) _ | with_reducible refine Below.step2 (by with_reducible assumption) ?_ | with_reducible refine Below.step (by with_reducible assumption) ?_ (by first | omega | (simp <;> omega)))), ret_bool (by first | rfl | (simp; omega))⟩
        · have he : meetP (ax, ay) (bx, by_) (cx, cy) (dx, dy) = true := by rw [HR.out, decide_eq_true_eq]; omega
          rw [he]
          clear he
          go_enter Try.func76, Try.ntmps76; simp only [List.append_eq, List.cons_append, List.nil_append]
          go_wp2
          go_ret
          exact ⟨(by repeat (first | with_reducible exact Below.refl _ _ | with_reducible assumption | with_reducible refine Below.drew ?_ | with_reducible refine Below.drewN ?_ _ | with_reducible refine Below.alloc2 ?_ _ | with_reducible refine Below.alloc ?_ (by first | omega | (simp <;> omega)) _ | with_reducible refine Below.setCell ?_ (by first | omega | (simp <;> omega)) _ | with_reducible refine Below.step2 (by with_reducible assumption) ?_ | with_reducible refine Below.step (by with_reducible assumption) ?_ (by first | omega | (simp <;> omega)))), ret_bool (by first | rfl | (simp; omega))⟩

set_option maxHeartbeats 2000000 in
theorem refTouch_any (ax ay bx by_ cx cy dx dy : Int) (w : World) :
    Calls Try.prog 57 #[.agg #[.int .i64 ax, .int .i64 ay], .agg #[.int .i64 bx, .int .i64 by_], .agg #[.int .i64 cx, .int .i64 cy], .agg #[.int .i64 dx, .int .i64 dy]] w
      fun e w' => Below w.heap.size w w' ∧ e = .returned (.bool (meetP (ax, ay) (bx, by_) (cx, cy) (dx, dy))) := by
  have hr : meetP (ax, ay) (bx, by_) (cx, cy) (dx, dy) = decide (min ax bx ≤ max cx dx ∧ min cx dx ≤ max ax bx ∧ min ay by_ ≤ max cy dy ∧ min cy dy ≤ max ay by_) := rfl
  have HR := Lib.hid hr
  clear hr
  rcases Int.lt_or_le (max cx dx) (min ax bx) with h1 | h1
  · have he : meetP (ax, ay) (bx, by_) (cx, cy) (dx, dy) = false := by rw [HR.out, decide_eq_false_iff_not]; omega
    rw [he]
    clear he
    go_enter Try.func57, Try.ntmps57
    go_wp2
    go_ret
    exact ⟨(by repeat (first | with_reducible exact Below.refl _ _ | with_reducible assumption | with_reducible refine Below.drew ?_ | with_reducible refine Below.drewN ?_ _ | with_reducible refine Below.alloc2 ?_ _ | with_reducible refine Below.alloc ?_ (by first | omega | (simp <;> omega)) _ | with_reducible refine Below.setCell ?_ (by first | omega | (simp <;> omega)) _ | with_reducible refine Below.step2 (by with_reducible assumption) ?_ | with_reducible refine Below.step (by with_reducible assumption) ?_ (by first | omega | (simp <;> omega)))), ret_bool (by first | rfl | (simp; omega))⟩
  · rcases Int.lt_or_le (max ax bx) (min cx dx) with h2 | h2
    · have he : meetP (ax, ay) (bx, by_) (cx, cy) (dx, dy) = false := by rw [HR.out, decide_eq_false_iff_not]; omega
      rw [he]
      clear he
      go_enter Try.func57, Try.ntmps57
      go_wp2
      go_ret
      exact ⟨(by repeat (first | with_reducible exact Below.refl _ _ | with_reducible assumption | with_reducible refine Below.drew ?_ | with_reducible refine Below.drewN ?_ _ | with_reducible refine Below.alloc2 ?_ _ | with_reducible refine Below.alloc ?_ (by first | omega | (simp <;> omega)) _ | with_reducible refine Below.setCell ?_ (by first | omega | (simp <;> omega)) _ | with_reducible refine Below.step2 (by with_reducible assumption) ?_ | with_reducible refine Below.step (by with_reducible assumption) ?_ (by first | omega | (simp <;> omega)))), ret_bool (by first | rfl | (simp; omega))⟩
    · rcases Int.lt_or_le (max cy dy) (min ay by_) with h3 | h3
      · have he : meetP (ax, ay) (bx, by_) (cx, cy) (dx, dy) = false := by rw [HR.out, decide_eq_false_iff_not]; omega
        rw [he]
        clear he
        go_enter Try.func57, Try.ntmps57
        go_wp2
        go_ret
        exact ⟨(by repeat (first | with_reducible exact Below.refl _ _ | with_reducible assumption | with_reducible refine Below.drew ?_ | with_reducible refine Below.drewN ?_ _ | with_reducible refine Below.alloc2 ?_ _ | with_reducible refine Below.alloc ?_ (by first | omega | (simp <;> omega)) _ | with_reducible refine Below.setCell ?_ (by first | omega | (simp <;> omega)) _ | with_reducible refine Below.step2 (by with_reducible assumption) ?_ | with_reducible refine Below.step (by with_reducible assumption) ?_ (by first | omega | (simp <;> omega)))), ret_bool (by first | rfl | (simp; omega))⟩
      · rcases Int.lt_or_le (max ay by_) (min cy dy) with h4 | h4
        · have he : meetP (ax, ay) (bx, by_) (cx, cy) (dx, dy) = false := by rw [HR.out, decide_eq_false_iff_not]; omega
          rw [he]
          clear he
          go_enter Try.func57, Try.ntmps57
          go_wp2
          go_ret
          exact ⟨(by repeat (first | with_reducible exact Below.refl _ _ | with_reducible assumption | with_reducible refine Below.drew ?_ | with_reducible refine Below.drewN ?_ _ | with_reducible refine Below.alloc2 ?_ _ | with_reducible refine Below.alloc ?_ (by first | omega | (simp <;> omega)) _ | with_reducible refine Below.setCell ?_ (by first | omega | (simp <;> omega)) _ | with_reducible refine Below.step2 (by with_reducible assumption) ?_ | with_reducible refine Below.step (by with_reducible assumption) ?_ (by first | omega | (simp <;> omega)))), ret_bool (by first | rfl | (simp; omega))⟩
        · have he : meetP (ax, ay) (bx, by_) (cx, cy) (dx, dy) = true := by rw [HR.out, decide_eq_true_eq]; omega
          rw [he]
          clear he
          go_enter Try.func57, Try.ntmps57
          go_wp2
          go_ret
          exact ⟨(by repeat (first | with_reducible exact Below.refl _ _ | with_reducible assumption | with_reducible refine Below.drew ?_ | with_reducible refine Below.drewN ?_ _ | with_reducible refine Below.alloc2 ?_ _ | with_reducible refine Below.alloc ?_ (by first | omega | (simp <;> omega)) _ | with_reducible refine Below.setCell ?_ (by first | omega | (simp <;> omega)) _ | with_reducible refine Below.step2 (by with_reducible assumption) ?_ | with_reducible refine Below.step (by with_reducible assumption) ?_ (by first | omega | (simp <;> omega)))), ret_bool (by first | rfl | (simp; omega))⟩

end Go.Proofs.Ytbfbjpnmgcpjlaa
