/-
  No cell of these rows narrows 'for every input' (looked for: loops, veiled, ifaces, maps, wideKeys, modest, calm, conditions, laid).
  DERIVED. THE GIVEN ROWS OF THIS SEAT. 4 by the template 'for every input the law returns true; each argument reads behind the call as it read before'; 0 by the template 'total and deterministic' (their statements: YthlfhfkfjefidaaGreatTotals.lean).
  GIVEN WITH THE SEED: the statements are not yours to turn. If you find one false, say at which input.
  Laid BY PROGRAM, IN A SANDBOX (cutbox-rows.mjs): the forced cells as the released guide's own fill.sh prints them over the translation e12c618e1d26a277… (all of the seat's roots in one cut). By AI agents, Wed Nov 11 2026. No macro, syntax, notation, axiom, sorry.
-/
import Derived.Test.YthlfhfkfjefidaaGreatChecked
import GoSem.Claim
import GoSem.ClaimJoined
import GoSem.ClaimMapViews
import Derived.JoinedTies
import Derived.KernelRfl
namespace Go.Proofs.YthlfhfkfjefidaaGreat
/- THE CELL 'sum', in the pinned program and in every row, IS THE sha256 OF THE DUMP (.gsa) THAT YthlfhfkfjefidaaGreatProg.lean LOADS. Nothing in Lean hashes anything: it is a label: what it is worth is what the hold of that sum in a sandbox is worth. -/
noncomputable def Tryz.pinned : Pinned := { name := "ythlfhfkfjefidaagreat", sum := "e12c618e1d26a277cfe9783b980024b4462797531168a865a93426c920658db5", checked := Tryz.checked }
namespace Rows
def none {H : Type} : Left H := { results := [], args := [] }

/-- 'putloglaw01.ExactIntegers': WHATEVER THE INPUT: true; the input reads as it did. -/
def exactIntegersSpec : ChangeSpec := { name := "exactIntegers", fn := fun _ => fun
  | [d1, d2, d3] => { results := [.lit (.bool true)], args := [d1, d2, d3] }
  | _ => none }
def exactIntegersRow : OpenClaim := { program := "ythlfhfkfjefidaagreat", sum := "e12c618e1d26a277cfe9783b980024b4462797531168a865a93426c920658db5", func := "putlog/putloglaw01.ExactIntegers", spec := "exactIntegers", unfollowed := true, recurses := true, named := ["math/bits.overflowError"], apart := false }
def ExactIntegersSaid : Prop := exactIntegersRow.holds Tryz.pinned (OpenSpec.ofChange exactIntegersSpec)

/-- ITS FALSE NEIGHBOUR: 'it returns false'. Refute it at one input. -/
def exactIntegersWrong : ChangeSpec := { name := "exactIntegers", fn := fun _ => fun
  | [d1, d2, d3] => { results := [.lit (.bool false)], args := [d1, d2, d3] }
  | _ => none }
def ExactIntegersWrongFalsely : Prop := exactIntegersRow.holds Tryz.pinned (OpenSpec.ofChange exactIntegersWrong)

/-- 'putloglaw01.ExactRing': WHATEVER THE INPUT: true; the input reads as it did. -/
def exactRingSpec : ChangeSpec := { name := "exactRing", fn := fun _ => fun
  | [d1, d2, d3] => { results := [.lit (.bool true)], args := [d1, d2, d3] }
  | _ => none }
def exactRingRow : OpenClaim := { program := "ythlfhfkfjefidaagreat", sum := "e12c618e1d26a277cfe9783b980024b4462797531168a865a93426c920658db5", func := "putlog/putloglaw01.ExactRing", spec := "exactRing", unfollowed := true, recurses := true, named := ["math/bits.overflowError"], apart := false }
def ExactRingSaid : Prop := exactRingRow.holds Tryz.pinned (OpenSpec.ofChange exactRingSpec)

/-- ITS FALSE NEIGHBOUR: 'it returns false'. Refute it at one input. -/
def exactRingWrong : ChangeSpec := { name := "exactRing", fn := fun _ => fun
  | [d1, d2, d3] => { results := [.lit (.bool false)], args := [d1, d2, d3] }
  | _ => none }
def ExactRingWrongFalsely : Prop := exactRingRow.holds Tryz.pinned (OpenSpec.ofChange exactRingWrong)

/-- 'putloglaw01.ExactFractions': WHATEVER THE INPUT: true; the input reads as it did. -/
def exactFractionsSpec : ChangeSpec := { name := "exactFractions", fn := fun _ => fun
  | [d1, d2, d3] => { results := [.lit (.bool true)], args := [d1, d2, d3] }
  | _ => none }
def exactFractionsRow : OpenClaim := { program := "ythlfhfkfjefidaagreat", sum := "e12c618e1d26a277cfe9783b980024b4462797531168a865a93426c920658db5", func := "putlog/putloglaw01.ExactFractions", spec := "exactFractions", unfollowed := true, recurses := true, named := ["math/bits.overflowError"], apart := false }
def ExactFractionsSaid : Prop := exactFractionsRow.holds Tryz.pinned (OpenSpec.ofChange exactFractionsSpec)

/-- ITS FALSE NEIGHBOUR: 'it returns false'. Refute it at one input. -/
def exactFractionsWrong : ChangeSpec := { name := "exactFractions", fn := fun _ => fun
  | [d1, d2, d3] => { results := [.lit (.bool false)], args := [d1, d2, d3] }
  | _ => none }
def ExactFractionsWrongFalsely : Prop := exactFractionsRow.holds Tryz.pinned (OpenSpec.ofChange exactFractionsWrong)

/-- 'putloglaw01.ExactCertificates': WHATEVER THE INPUT: true; the input reads as it did. -/
def exactCertificatesSpec : ChangeSpec := { name := "exactCertificates", fn := fun _ => fun
  | [d1, d2] => { results := [.lit (.bool true)], args := [d1, d2] }
  | _ => none }
def exactCertificatesRow : OpenClaim := { program := "ythlfhfkfjefidaagreat", sum := "e12c618e1d26a277cfe9783b980024b4462797531168a865a93426c920658db5", func := "putlog/putloglaw01.ExactCertificates", spec := "exactCertificates", unfollowed := true, recurses := true, named := ["math/bits.overflowError"], apart := false }
def ExactCertificatesSaid : Prop := exactCertificatesRow.holds Tryz.pinned (OpenSpec.ofChange exactCertificatesSpec)

/-- ITS FALSE NEIGHBOUR: 'it returns false'. Refute it at one input. -/
def exactCertificatesWrong : ChangeSpec := { name := "exactCertificates", fn := fun _ => fun
  | [d1, d2] => { results := [.lit (.bool false)], args := [d1, d2] }
  | _ => none }
def ExactCertificatesWrongFalsely : Prop := exactCertificatesRow.holds Tryz.pinned (OpenSpec.ofChange exactCertificatesWrong)

/- THE SECOND FORM. 'bulk': how many values and letters a reading holds, each counted each time it is reached (what is shared counts as often as it is met; a slice's spare places count too). A statement '..UptoSaid' is the law's where the arguments, and the package variables that the reading takes, are together of bulk at most 1048576: NARROWER than '..Said'. Prove '..Said' where nothing that the law and all that it calls make is longer than what came in: it says more and counts as full. Else prove '..UptoSaid'. A law counts once. -/
mutual
def uptoBulk {H : Type} : DataW H → Nat
  | .lit (.string bytes) => bytes.length + 1
  | .lit _ => 1
  | .nil => 1
  | .ptr d => uptoBulk d + 1
  | .slice elems spare => uptoBulkAll elems + uptoBulkAll spare + 1
  | .agg parts => uptoBulkAll parts + 1
  | .iface _ d => uptoBulk d + 1
  | .map entries => uptoBulkEntries entries + 1
  | .held _ => 1
def uptoBulkAll {H : Type} : List (DataW H) → Nat
  | [] => 0
  | d :: r => uptoBulk d + uptoBulkAll r
def uptoBulkEntries {H : Type} : List (Lit × DataW H) → Nat
  | [] => 0
  | x :: r => uptoBulkEntry x + uptoBulkEntries r
def uptoBulkEntry {H : Type} : Lit × DataW H → Nat
  | (.string bytes, d) => bytes.length + uptoBulk d + 1
  | (_, d) => uptoBulk d + 1
 end
def uptoSmall : (H : Type) → List (DataW H) → Bool := fun _ ds => decide (uptoBulkAll ds ≤ 1048576)
def OpenSpec.upto (s : _root_.Go.ChangeSpec) : _root_.Go.OpenSpec := { _root_.Go.OpenSpec.ofChange s with cond := some uptoSmall }

/-- 'putloglaw01.ExactIntegers', WHERE WHAT IT READS IS OF BULK AT MOST 1048576: true; the input reads as it did. -/
def exactIntegersUptoRow : OpenClaim := { program := "ythlfhfkfjefidaagreat", sum := "e12c618e1d26a277cfe9783b980024b4462797531168a865a93426c920658db5", func := "putlog/putloglaw01.ExactIntegers", spec := "exactIntegers", unfollowed := true, recurses := true, named := ["math/bits.overflowError"], apart := false, narrowed := true }
def ExactIntegersUptoSaid : Prop := exactIntegersUptoRow.holds Tryz.pinned (OpenSpec.upto exactIntegersSpec)

/-- 'putloglaw01.ExactRing', WHERE WHAT IT READS IS OF BULK AT MOST 1048576: true; the input reads as it did. -/
def exactRingUptoRow : OpenClaim := { program := "ythlfhfkfjefidaagreat", sum := "e12c618e1d26a277cfe9783b980024b4462797531168a865a93426c920658db5", func := "putlog/putloglaw01.ExactRing", spec := "exactRing", unfollowed := true, recurses := true, named := ["math/bits.overflowError"], apart := false, narrowed := true }
def ExactRingUptoSaid : Prop := exactRingUptoRow.holds Tryz.pinned (OpenSpec.upto exactRingSpec)

/-- 'putloglaw01.ExactFractions', WHERE WHAT IT READS IS OF BULK AT MOST 1048576: true; the input reads as it did. -/
def exactFractionsUptoRow : OpenClaim := { program := "ythlfhfkfjefidaagreat", sum := "e12c618e1d26a277cfe9783b980024b4462797531168a865a93426c920658db5", func := "putlog/putloglaw01.ExactFractions", spec := "exactFractions", unfollowed := true, recurses := true, named := ["math/bits.overflowError"], apart := false, narrowed := true }
def ExactFractionsUptoSaid : Prop := exactFractionsUptoRow.holds Tryz.pinned (OpenSpec.upto exactFractionsSpec)

/-- 'putloglaw01.ExactCertificates', WHERE WHAT IT READS IS OF BULK AT MOST 1048576: true; the input reads as it did. -/
def exactCertificatesUptoRow : OpenClaim := { program := "ythlfhfkfjefidaagreat", sum := "e12c618e1d26a277cfe9783b980024b4462797531168a865a93426c920658db5", func := "putlog/putloglaw01.ExactCertificates", spec := "exactCertificates", unfollowed := true, recurses := true, named := ["math/bits.overflowError"], apart := false, narrowed := true }
def ExactCertificatesUptoSaid : Prop := exactCertificatesUptoRow.holds Tryz.pinned (OpenSpec.upto exactCertificatesSpec)

end Rows
end Go.Proofs.YthlfhfkfjefidaaGreat
