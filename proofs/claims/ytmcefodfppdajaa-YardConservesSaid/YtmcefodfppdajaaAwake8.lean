/- Chapter 8's awake, by evaluation. -/
import Derived.Test.YtmcefodfppdajaaProg
import Derived.Test.YtmcefodfppdajaaSimZ
import Derived.KernelRfl
namespace Go.Proofs.Ytmcefodfppdajaa
open Go Go.RowKit

set_option maxRecDepth 100000
theorem awake_true (w : World) : Calls Try.prog 12 #[] w fun e w' => Below w.heap.size w w' ∧ e = .returned (.bool true) :=
  Sim.run_true (fuel := 100000) (d := 40) (by kernel_rfl) (by kernel_rfl) (by kernel_rfl) w

end Go.Proofs.Ytmcefodfppdajaa
