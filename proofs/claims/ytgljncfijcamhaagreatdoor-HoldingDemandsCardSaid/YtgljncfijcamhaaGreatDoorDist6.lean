/- Chapter 6, walks: distances of numbers. -/
import Derived.Test.YtgljncfijcamhaaGreatDoorRefTies6
import Derived.Lib.MinMax
namespace Go.Proofs.YtgljncfijcamhaaGreatDoor
open Go.RowKit

def absD (x y : Int) : Int := max (x - y) (y - x)
theorem absD_le {x y : Int} (h1 : -1000000 ≤ x) (h2 : x ≤ 1000000) (h3 : -1000000 ≤ y) (h4 : y ≤ 1000000) : 0 ≤ absD x y ∧ absD x y ≤ 2000000 := by unfold absD; omega
set_option maxHeartbeats 400000 in
theorem distance_any (x y : Int) (w : World) (h1 : -1000000 ≤ x) (h2 : x ≤ 1000000) (h3 : -1000000 ≤ y) (h4 : y ≤ 1000000) : Calls Tryz.prog 86 #[.int .i64 x, .int .i64 y] w fun e w' => w = w' ∧ e = .returned (.int .i64 (absD x y)) := by
  have hw1 : IntKind.i64.wrap (x - y) = x - y := IntWalk.i64_in _ (by omega)
  have hw2 : IntKind.i64.wrap (y - x) = y - x := IntWalk.i64_in _ (by omega)
  have HD : Hid (max (x - y) (y - x) = absD x y) := Lib.hid rfl
  clear h1 h2 h3 h4
  go_enter Tryz.func86, Tryz.ntmps86
  go_wp2
  go_ret
  exact ⟨rfl, ret_int (by first | exact HD.out | (rw [← HD.out]; omega))⟩

end Go.Proofs.YtgljncfijcamhaaGreatDoor
