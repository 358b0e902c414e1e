/- Chapter 6's awake, by evaluation; strings.Join by its contract. -/
import Derived.Test.YtgljncfijcamhaaGreatDoorJoinO
import Derived.KernelRfl
namespace Go.Proofs.YtgljncfijcamhaaGreatDoor
open Go Go.RowKit

set_option maxRecDepth 100000
theorem awake_true (w : World) : Calls Tryz.prog 8 #[] w fun e w' => Below w.heap.size w w' ∧ e = .returned (.bool true) :=
  Sim.run_trueX (fuel := 100000) (d := 40) Sim.orcJoin_ok (by kernel_rfl) (by kernel_rfl) (by kernel_rfl) w

end Go.Proofs.YtgljncfijcamhaaGreatDoor
