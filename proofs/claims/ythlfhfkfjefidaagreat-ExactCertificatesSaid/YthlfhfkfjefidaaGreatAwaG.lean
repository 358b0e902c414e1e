/- Several texts in one. -/
import Derived.Test.YthlfhfkfjefidaaGreatSim2
import Derived.Test.YthlfhfkfjefidaaGreatProg
import Derived.KernelRfl
/- Chapter 1's awake, by evaluation. -/
namespace Go.Proofs.YthlfhfkfjefidaaGreat
open Go Go.RowKit
set_option maxRecDepth 100000
theorem awake_true (w : World) : Calls Tryz.prog 8 #[] w fun e w' => Below w.heap.size w w' ∧ e = .returned (.bool true) :=
 Sim.run_true (fuel := 100000) (d := 40) (by kernel_rfl) (by kernel_rfl) (by kernel_rfl) w
end Go.Proofs.YthlfhfkfjefidaaGreat
