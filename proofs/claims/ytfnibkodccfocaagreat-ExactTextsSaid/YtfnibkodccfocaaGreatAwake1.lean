/- Chapter 1's awake, by evaluation. -/
import Derived.Test.YtfnibkodccfocaaGreatSim2
import Derived.Test.YtfnibkodccfocaaGreatProg
import Derived.KernelRfl
namespace Go.Proofs.YtfnibkodccfocaaGreat
open Go Go.RowKit

set_option maxRecDepth 100000
theorem awake_true (w : World) : Calls Tryz.prog 8 #[] w fun e w' => Below w.heap.size w w' ∧ e = .returned (.bool true) :=
  Sim.run_true (fuel := 100000) (d := 40) (by kernel_rfl) (by kernel_rfl) (by kernel_rfl) w

end Go.Proofs.YtfnibkodccfocaaGreat
