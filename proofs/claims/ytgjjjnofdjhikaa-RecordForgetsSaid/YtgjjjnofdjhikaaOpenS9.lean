/- Chapter 9: arguments, opened: texts. -/
import Derived.Test.YtgjjjnofdjhikaaLift
import Derived.ChangeMaps5
namespace Go.Proofs.Ytgjjjnofdjhikaa
open Go.ChangeShapes Go.WideShapes Go.ChangeAt Go.RowKit

set_option maxRecDepth 100000 in
/-- An argument that is a text. -/
theorem open_str {H : Type} {enc : TypeId × Value → H} {w : World} {v : Value} {d : DataW H} {ps : List MemPlace} {r : Reach} {b0 : Nat}
    (hv : Value.okWide Try.prog w r b0 9 v) (h : DataW.Trod enc Try.prog w 0 (fun _ => true) true 9 v d ps) : ∃ z : ByteArray, v = .string z := by
  obtain ⟨s, e, -⟩ := Go.ChangeMaps.open_string Try.underlying9 hv h
  exact ⟨s, e⟩

end Go.Proofs.Ytgjjjnofdjhikaa
