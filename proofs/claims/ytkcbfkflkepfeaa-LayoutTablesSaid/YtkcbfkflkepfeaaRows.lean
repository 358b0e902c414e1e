/-
  No cell of these rows narrows 'for every input' (looked for: loops, veiled, ifaces, maps, wideKeys, modest, calm, conditions, laid).
  DERIVED. THE GIVEN ROWS OF THIS SEAT. 5 by the template 'for every input the law returns true; each argument reads behind the call as it read before'; 0 by the template 'total and deterministic' (their statements: YtkcbfkflkepfeaaTotals.lean).
  GIVEN WITH THE SEED: the statements are not yours to turn. If you find one false, say at which input.
  Laid BY PROGRAM, IN A SANDBOX (cutbox-rows.mjs): the forced cells as the released guide's own fill.sh prints them over the translation f236098a10d35ffc… (all of the seat's roots in one cut). By AI agents, Wed Nov 11 2026. No macro, syntax, notation, axiom, sorry.
-/
import Derived.Test.YtkcbfkflkepfeaaChecked
import GoSem.Claim
import GoSem.ClaimJoined
import GoSem.ClaimMapViews
import Derived.JoinedTies
import Derived.KernelRfl
namespace Go.Proofs.Ytkcbfkflkepfeaa
/- THE CELL 'sum', in the pinned program and in every row, IS THE sha256 OF THE DUMP (.gsa) THAT YtkcbfkflkepfeaaProg.lean LOADS. Nothing in Lean hashes anything: it is a label: what it is worth is what the hold of that sum in a sandbox is worth. -/
noncomputable def Try.pinned : Pinned := { name := "ytkcbfkflkepfeaa", sum := "f236098a10d35ffcbe999dd19560ebf49d8ea737aeb864631da8d4081b7d3e7e", checked := Try.checked }
namespace Rows
def none {H : Type} : Left H := { results := [], args := [] }

/-- 'putloglaw03.LayoutClosings': WHATEVER THE INPUT: true; the input reads as it did. -/
def layoutClosingsSpec : ChangeSpec := { name := "layoutClosings", fn := fun _ => fun
  | [d1, d2, d3] => { results := [.lit (.bool true)], args := [d1, d2, d3] }
  | _ => none }
def layoutClosingsRow : OpenClaim := { program := "ytkcbfkflkepfeaa", sum := "f236098a10d35ffcbe999dd19560ebf49d8ea737aeb864631da8d4081b7d3e7e", func := "putlog/putloglaw03.LayoutClosings", spec := "layoutClosings", unfollowed := true, recurses := true, apart := false }
def LayoutClosingsSaid : Prop := layoutClosingsRow.holds Try.pinned (OpenSpec.ofChange layoutClosingsSpec)

/-- ITS FALSE NEIGHBOUR: 'it returns false'. Refute it at one input. -/
def layoutClosingsWrong : ChangeSpec := { name := "layoutClosings", fn := fun _ => fun
  | [d1, d2, d3] => { results := [.lit (.bool false)], args := [d1, d2, d3] }
  | _ => none }
def LayoutClosingsWrongFalsely : Prop := layoutClosingsRow.holds Try.pinned (OpenSpec.ofChange layoutClosingsWrong)

/-- 'putloglaw03.LayoutCloses': WHATEVER THE INPUT: true; the input reads as it did. -/
def layoutClosesSpec : ChangeSpec := { name := "layoutCloses", fn := fun _ => fun
  | [d1, d2] => { results := [.lit (.bool true)], args := [d1, d2] }
  | _ => none }
def layoutClosesRow : OpenClaim := { program := "ytkcbfkflkepfeaa", sum := "f236098a10d35ffcbe999dd19560ebf49d8ea737aeb864631da8d4081b7d3e7e", func := "putlog/putloglaw03.LayoutCloses", spec := "layoutCloses", unfollowed := true, recurses := true, apart := false }
def LayoutClosesSaid : Prop := layoutClosesRow.holds Try.pinned (OpenSpec.ofChange layoutClosesSpec)

/-- ITS FALSE NEIGHBOUR: 'it returns false'. Refute it at one input. -/
def layoutClosesWrong : ChangeSpec := { name := "layoutCloses", fn := fun _ => fun
  | [d1, d2] => { results := [.lit (.bool false)], args := [d1, d2] }
  | _ => none }
def LayoutClosesWrongFalsely : Prop := layoutClosesRow.holds Try.pinned (OpenSpec.ofChange layoutClosesWrong)

/-- 'putloglaw03.LayoutTables': WHATEVER THE INPUT: true; the input reads as it did. -/
def layoutTablesSpec : ChangeSpec := { name := "layoutTables", fn := fun _ => fun
  | [d1, d2] => { results := [.lit (.bool true)], args := [d1, d2] }
  | _ => none }
def layoutTablesRow : OpenClaim := { program := "ytkcbfkflkepfeaa", sum := "f236098a10d35ffcbe999dd19560ebf49d8ea737aeb864631da8d4081b7d3e7e", func := "putlog/putloglaw03.LayoutTables", spec := "layoutTables", unfollowed := true, recurses := true, apart := false }
def LayoutTablesSaid : Prop := layoutTablesRow.holds Try.pinned (OpenSpec.ofChange layoutTablesSpec)

/-- ITS FALSE NEIGHBOUR: 'it returns false'. Refute it at one input. -/
def layoutTablesWrong : ChangeSpec := { name := "layoutTables", fn := fun _ => fun
  | [d1, d2] => { results := [.lit (.bool false)], args := [d1, d2] }
  | _ => none }
def LayoutTablesWrongFalsely : Prop := layoutTablesRow.holds Try.pinned (OpenSpec.ofChange layoutTablesWrong)

/-- 'putloglaw03.LayoutWays': WHATEVER THE INPUT: true; the input reads as it did. -/
def layoutWaysSpec : ChangeSpec := { name := "layoutWays", fn := fun _ => fun
  | [d1, d2] => { results := [.lit (.bool true)], args := [d1, d2] }
  | _ => none }
def layoutWaysRow : OpenClaim := { program := "ytkcbfkflkepfeaa", sum := "f236098a10d35ffcbe999dd19560ebf49d8ea737aeb864631da8d4081b7d3e7e", func := "putlog/putloglaw03.LayoutWays", spec := "layoutWays", unfollowed := true, recurses := true, apart := false }
def LayoutWaysSaid : Prop := layoutWaysRow.holds Try.pinned (OpenSpec.ofChange layoutWaysSpec)

/-- ITS FALSE NEIGHBOUR: 'it returns false'. Refute it at one input. -/
def layoutWaysWrong : ChangeSpec := { name := "layoutWays", fn := fun _ => fun
  | [d1, d2] => { results := [.lit (.bool false)], args := [d1, d2] }
  | _ => none }
def LayoutWaysWrongFalsely : Prop := layoutWaysRow.holds Try.pinned (OpenSpec.ofChange layoutWaysWrong)

/-- 'putloglaw03.LayoutSums': WHATEVER THE INPUT: true; the input reads as it did. -/
def layoutSumsSpec : ChangeSpec := { name := "layoutSums", fn := fun _ => fun
  | [d1, d2, d3] => { results := [.lit (.bool true)], args := [d1, d2, d3] }
  | _ => none }
def layoutSumsRow : OpenClaim := { program := "ytkcbfkflkepfeaa", sum := "f236098a10d35ffcbe999dd19560ebf49d8ea737aeb864631da8d4081b7d3e7e", func := "putlog/putloglaw03.LayoutSums", spec := "layoutSums", unfollowed := true, recurses := true, apart := false }
def LayoutSumsSaid : Prop := layoutSumsRow.holds Try.pinned (OpenSpec.ofChange layoutSumsSpec)

/-- ITS FALSE NEIGHBOUR: 'it returns false'. Refute it at one input. -/
def layoutSumsWrong : ChangeSpec := { name := "layoutSums", fn := fun _ => fun
  | [d1, d2, d3] => { results := [.lit (.bool false)], args := [d1, d2, d3] }
  | _ => none }
def LayoutSumsWrongFalsely : Prop := layoutSumsRow.holds Try.pinned (OpenSpec.ofChange layoutSumsWrong)

/- THE SECOND FORM. 'bulk': how many values and letters a reading holds, each counted each time it is reached (what is shared counts as often as it is met; a slice's spare places count too). A statement '..UptoSaid' is the law's where the arguments, and the package variables that the reading takes, are together of bulk at most 1048576: NARROWER than '..Said'. Prove '..Said' where nothing that the law and all that it calls make is longer than what came in: it says more and counts as full. Else prove '..UptoSaid'. A law counts once. -/
mutual
def uptoBulk {H : Type} : DataW H → Nat
  | .lit (.string bytes) => bytes.length + 1
  | .lit _ => 1
  | .nil => 1
  | .ptr d => uptoBulk d + 1
  | .slice elems spare => uptoBulkAll elems + uptoBulkAll spare + 1
  | .agg parts => uptoBulkAll parts + 1
  | .iface _ d => uptoBulk d + 1
  | .map entries => uptoBulkEntries entries + 1
  | .held _ => 1
def uptoBulkAll {H : Type} : List (DataW H) → Nat
  | [] => 0
  | d :: r => uptoBulk d + uptoBulkAll r
def uptoBulkEntries {H : Type} : List (Lit × DataW H) → Nat
  | [] => 0
  | x :: r => uptoBulkEntry x + uptoBulkEntries r
def uptoBulkEntry {H : Type} : Lit × DataW H → Nat
  | (.string bytes, d) => bytes.length + uptoBulk d + 1
  | (_, d) => uptoBulk d + 1
 end
def uptoSmall : (H : Type) → List (DataW H) → Bool := fun _ ds => decide (uptoBulkAll ds ≤ 1048576)
def OpenSpec.upto (s : _root_.Go.ChangeSpec) : _root_.Go.OpenSpec := { _root_.Go.OpenSpec.ofChange s with cond := some uptoSmall }

/-- 'putloglaw03.LayoutClosings', WHERE WHAT IT READS IS OF BULK AT MOST 1048576: true; the input reads as it did. -/
def layoutClosingsUptoRow : OpenClaim := { program := "ytkcbfkflkepfeaa", sum := "f236098a10d35ffcbe999dd19560ebf49d8ea737aeb864631da8d4081b7d3e7e", func := "putlog/putloglaw03.LayoutClosings", spec := "layoutClosings", unfollowed := true, recurses := true, apart := false, narrowed := true }
def LayoutClosingsUptoSaid : Prop := layoutClosingsUptoRow.holds Try.pinned (OpenSpec.upto layoutClosingsSpec)

/-- 'putloglaw03.LayoutCloses', WHERE WHAT IT READS IS OF BULK AT MOST 1048576: true; the input reads as it did. -/
def layoutClosesUptoRow : OpenClaim := { program := "ytkcbfkflkepfeaa", sum := "f236098a10d35ffcbe999dd19560ebf49d8ea737aeb864631da8d4081b7d3e7e", func := "putlog/putloglaw03.LayoutCloses", spec := "layoutCloses", unfollowed := true, recurses := true, apart := false, narrowed := true }
def LayoutClosesUptoSaid : Prop := layoutClosesUptoRow.holds Try.pinned (OpenSpec.upto layoutClosesSpec)

/-- 'putloglaw03.LayoutTables', WHERE WHAT IT READS IS OF BULK AT MOST 1048576: true; the input reads as it did. -/
def layoutTablesUptoRow : OpenClaim := { program := "ytkcbfkflkepfeaa", sum := "f236098a10d35ffcbe999dd19560ebf49d8ea737aeb864631da8d4081b7d3e7e", func := "putlog/putloglaw03.LayoutTables", spec := "layoutTables", unfollowed := true, recurses := true, apart := false, narrowed := true }
def LayoutTablesUptoSaid : Prop := layoutTablesUptoRow.holds Try.pinned (OpenSpec.upto layoutTablesSpec)

/-- 'putloglaw03.LayoutWays', WHERE WHAT IT READS IS OF BULK AT MOST 1048576: true; the input reads as it did. -/
def layoutWaysUptoRow : OpenClaim := { program := "ytkcbfkflkepfeaa", sum := "f236098a10d35ffcbe999dd19560ebf49d8ea737aeb864631da8d4081b7d3e7e", func := "putlog/putloglaw03.LayoutWays", spec := "layoutWays", unfollowed := true, recurses := true, apart := false, narrowed := true }
def LayoutWaysUptoSaid : Prop := layoutWaysUptoRow.holds Try.pinned (OpenSpec.upto layoutWaysSpec)

/-- 'putloglaw03.LayoutSums', WHERE WHAT IT READS IS OF BULK AT MOST 1048576: true; the input reads as it did. -/
def layoutSumsUptoRow : OpenClaim := { program := "ytkcbfkflkepfeaa", sum := "f236098a10d35ffcbe999dd19560ebf49d8ea737aeb864631da8d4081b7d3e7e", func := "putlog/putloglaw03.LayoutSums", spec := "layoutSums", unfollowed := true, recurses := true, apart := false, narrowed := true }
def LayoutSumsUptoSaid : Prop := layoutSumsUptoRow.holds Try.pinned (OpenSpec.upto layoutSumsSpec)

end Rows
end Go.Proofs.Ytkcbfkflkepfeaa
