/- Chapter 9: arguments, opened: numbers. -/
import Derived.Test.YtmcefodfppdajaaLift
import Derived.Lib.SmallJoins
import Derived.Deep.Slices
import Derived.Deep.Fields
namespace Go.Proofs.Ytmcefodfppdajaa
open Go.ChangeShapes Go.WideShapes Go.ChangeAt Go.RowKit Go.Joins Go.Deep

set_option maxRecDepth 100000 in
/-- An argument that is a number. -/
theorem open_num {H : Type} {enc : TypeId × Value → H} {w : World} {v : Value} {d : DataW H} {ps : List MemPlace} {r : Reach} {b0 : Nat}
    (hv : Value.okWide Try.prog w r b0 3 v) (h : DataW.Trod enc Try.prog w 0 (fun _ => true) true 3 v d ps) : ∃ z : Int, v = .int .i64 z := by
  obtain ⟨fuel, hf⟩ := h
  obtain ⟨z, e1, _, _⟩ := DataW.trod_int Try.underlying3 hf
  obtain ⟨x', rfl⟩ := okWide_int Try.underlying3 hv
  exact ⟨z, by simpa [Value.cells] using e1⟩

end Go.Proofs.Ytmcefodfppdajaa
