/-
  No cell of these rows narrows 'for every input' (looked for: loops, veiled, ifaces, maps, wideKeys, modest, calm, conditions, laid).
  DERIVED. THE GIVEN ROWS OF THIS SEAT. 8 by the template 'for every input the law returns true; each argument reads behind the call as it read before'; 0 by the template 'total and deterministic' (their statements: YtbeijeblbchglaaTotals.lean).
  GIVEN WITH THE SEED: the statements are not yours to turn. If you find one false, say at which input.
  Laid BY PROGRAM, IN A SANDBOX (cutbox-rows.mjs): the forced cells as the released guide's own fill.sh prints them over the translation a8612a8a4865eb9e… (all of the seat's roots in one cut). By AI agents, Wed Nov 11 2026. No macro, syntax, notation, axiom, sorry.
-/
import Derived.Test.YtbeijeblbchglaaChecked
import GoSem.Claim
import GoSem.ClaimJoined
import GoSem.ClaimMapViews
import Derived.JoinedTies
import Derived.KernelRfl
namespace Go.Proofs.Ytbeijeblbchglaa
/- THE CELL 'sum', in the pinned program and in every row, IS THE sha256 OF THE DUMP (.gsa) THAT YtbeijeblbchglaaProg.lean LOADS. Nothing in Lean hashes anything: it is a label: what it is worth is what the hold of that sum in a sandbox is worth. -/
noncomputable def Try.pinned : Pinned := { name := "ytbeijeblbchglaa", sum := "a8612a8a4865eb9e5eae4742f4cadac53265e2360d12617664132f0f9b245663", checked := Try.checked }
namespace Rows
def none {H : Type} : Left H := { results := [], args := [] }

/-- 'putloglaw09.RecordCorrects': WHATEVER THE INPUT: true; the input reads as it did. -/
def recordCorrectsSpec : ChangeSpec := { name := "recordCorrects", fn := fun _ => fun
  | [d1, d2, d3] => { results := [.lit (.bool true)], args := [d1, d2, d3] }
  | _ => none }
def recordCorrectsRow : OpenClaim := { program := "ytbeijeblbchglaa", sum := "a8612a8a4865eb9e5eae4742f4cadac53265e2360d12617664132f0f9b245663", func := "putlog/putloglaw09.RecordCorrects", spec := "recordCorrects", recurses := true, plainKeys := false, apart := false }
def RecordCorrectsSaid : Prop := recordCorrectsRow.holds Try.pinned (OpenSpec.ofChange recordCorrectsSpec)

/-- ITS FALSE NEIGHBOUR: 'it returns false'. Refute it at one input. -/
def recordCorrectsWrong : ChangeSpec := { name := "recordCorrects", fn := fun _ => fun
  | [d1, d2, d3] => { results := [.lit (.bool false)], args := [d1, d2, d3] }
  | _ => none }
def RecordCorrectsWrongFalsely : Prop := recordCorrectsRow.holds Try.pinned (OpenSpec.ofChange recordCorrectsWrong)

/-- 'putloglaw09.RecordReleases': WHATEVER THE INPUT: true; the input reads as it did. -/
def recordReleasesSpec : ChangeSpec := { name := "recordReleases", fn := fun _ => fun
  | [d1, d2, d3] => { results := [.lit (.bool true)], args := [d1, d2, d3] }
  | _ => none }
def recordReleasesRow : OpenClaim := { program := "ytbeijeblbchglaa", sum := "a8612a8a4865eb9e5eae4742f4cadac53265e2360d12617664132f0f9b245663", func := "putlog/putloglaw09.RecordReleases", spec := "recordReleases", recurses := true, plainKeys := false, apart := false }
def RecordReleasesSaid : Prop := recordReleasesRow.holds Try.pinned (OpenSpec.ofChange recordReleasesSpec)

/-- ITS FALSE NEIGHBOUR: 'it returns false'. Refute it at one input. -/
def recordReleasesWrong : ChangeSpec := { name := "recordReleases", fn := fun _ => fun
  | [d1, d2, d3] => { results := [.lit (.bool false)], args := [d1, d2, d3] }
  | _ => none }
def RecordReleasesWrongFalsely : Prop := recordReleasesRow.holds Try.pinned (OpenSpec.ofChange recordReleasesWrong)

/-- 'putloglaw09.RecordMoves': WHATEVER THE INPUT: true; the input reads as it did. -/
def recordMovesSpec : ChangeSpec := { name := "recordMoves", fn := fun _ => fun
  | [d1, d2] => { results := [.lit (.bool true)], args := [d1, d2] }
  | _ => none }
def recordMovesRow : OpenClaim := { program := "ytbeijeblbchglaa", sum := "a8612a8a4865eb9e5eae4742f4cadac53265e2360d12617664132f0f9b245663", func := "putlog/putloglaw09.RecordMoves", spec := "recordMoves", recurses := true, plainKeys := false, apart := false }
def RecordMovesSaid : Prop := recordMovesRow.holds Try.pinned (OpenSpec.ofChange recordMovesSpec)

/-- ITS FALSE NEIGHBOUR: 'it returns false'. Refute it at one input. -/
def recordMovesWrong : ChangeSpec := { name := "recordMoves", fn := fun _ => fun
  | [d1, d2] => { results := [.lit (.bool false)], args := [d1, d2] }
  | _ => none }
def RecordMovesWrongFalsely : Prop := recordMovesRow.holds Try.pinned (OpenSpec.ofChange recordMovesWrong)

/-- 'putloglaw09.RecordWeeks': WHATEVER THE INPUT: true; the input reads as it did. -/
def recordWeeksSpec : ChangeSpec := { name := "recordWeeks", fn := fun _ => fun
  | [d1, d2, d3] => { results := [.lit (.bool true)], args := [d1, d2, d3] }
  | _ => none }
def recordWeeksRow : OpenClaim := { program := "ytbeijeblbchglaa", sum := "a8612a8a4865eb9e5eae4742f4cadac53265e2360d12617664132f0f9b245663", func := "putlog/putloglaw09.RecordWeeks", spec := "recordWeeks", recurses := true, plainKeys := false, apart := false }
def RecordWeeksSaid : Prop := recordWeeksRow.holds Try.pinned (OpenSpec.ofChange recordWeeksSpec)

/-- ITS FALSE NEIGHBOUR: 'it returns false'. Refute it at one input. -/
def recordWeeksWrong : ChangeSpec := { name := "recordWeeks", fn := fun _ => fun
  | [d1, d2, d3] => { results := [.lit (.bool false)], args := [d1, d2, d3] }
  | _ => none }
def RecordWeeksWrongFalsely : Prop := recordWeeksRow.holds Try.pinned (OpenSpec.ofChange recordWeeksWrong)

/-- 'putloglaw09.RecordAccounts': WHATEVER THE INPUT: true; the input reads as it did. -/
def recordAccountsSpec : ChangeSpec := { name := "recordAccounts", fn := fun _ => fun
  | [d1, d2, d3] => { results := [.lit (.bool true)], args := [d1, d2, d3] }
  | _ => none }
def recordAccountsRow : OpenClaim := { program := "ytbeijeblbchglaa", sum := "a8612a8a4865eb9e5eae4742f4cadac53265e2360d12617664132f0f9b245663", func := "putlog/putloglaw09.RecordAccounts", spec := "recordAccounts", recurses := true, plainKeys := false, apart := false }
def RecordAccountsSaid : Prop := recordAccountsRow.holds Try.pinned (OpenSpec.ofChange recordAccountsSpec)

/-- ITS FALSE NEIGHBOUR: 'it returns false'. Refute it at one input. -/
def recordAccountsWrong : ChangeSpec := { name := "recordAccounts", fn := fun _ => fun
  | [d1, d2, d3] => { results := [.lit (.bool false)], args := [d1, d2, d3] }
  | _ => none }
def RecordAccountsWrongFalsely : Prop := recordAccountsRow.holds Try.pinned (OpenSpec.ofChange recordAccountsWrong)

/-- 'putloglaw09.RecordTotals': WHATEVER THE INPUT: true; the input reads as it did. -/
def recordTotalsSpec : ChangeSpec := { name := "recordTotals", fn := fun _ => fun
  | [d] => { results := [.lit (.bool true)], args := [d] }
  | _ => none }
def recordTotalsRow : OpenClaim := { program := "ytbeijeblbchglaa", sum := "a8612a8a4865eb9e5eae4742f4cadac53265e2360d12617664132f0f9b245663", func := "putlog/putloglaw09.RecordTotals", spec := "recordTotals", recurses := true, plainKeys := false, apart := false }
def RecordTotalsSaid : Prop := recordTotalsRow.holds Try.pinned (OpenSpec.ofChange recordTotalsSpec)

/-- ITS FALSE NEIGHBOUR: 'it returns false'. Refute it at one input. -/
def recordTotalsWrong : ChangeSpec := { name := "recordTotals", fn := fun _ => fun
  | [d] => { results := [.lit (.bool false)], args := [d] }
  | _ => none }
def RecordTotalsWrongFalsely : Prop := recordTotalsRow.holds Try.pinned (OpenSpec.ofChange recordTotalsWrong)

/-- 'putloglaw09.RecordInvoices': WHATEVER THE INPUT: true; the input reads as it did. -/
def recordInvoicesSpec : ChangeSpec := { name := "recordInvoices", fn := fun _ => fun
  | [d1, d2, d3] => { results := [.lit (.bool true)], args := [d1, d2, d3] }
  | _ => none }
def recordInvoicesRow : OpenClaim := { program := "ytbeijeblbchglaa", sum := "a8612a8a4865eb9e5eae4742f4cadac53265e2360d12617664132f0f9b245663", func := "putlog/putloglaw09.RecordInvoices", spec := "recordInvoices", recurses := true, plainKeys := false, apart := false }
def RecordInvoicesSaid : Prop := recordInvoicesRow.holds Try.pinned (OpenSpec.ofChange recordInvoicesSpec)

/-- ITS FALSE NEIGHBOUR: 'it returns false'. Refute it at one input. -/
def recordInvoicesWrong : ChangeSpec := { name := "recordInvoices", fn := fun _ => fun
  | [d1, d2, d3] => { results := [.lit (.bool false)], args := [d1, d2, d3] }
  | _ => none }
def RecordInvoicesWrongFalsely : Prop := recordInvoicesRow.holds Try.pinned (OpenSpec.ofChange recordInvoicesWrong)

/-- 'putloglaw09.RecordDays': WHATEVER THE INPUT: true; the input reads as it did. -/
def recordDaysSpec : ChangeSpec := { name := "recordDays", fn := fun _ => fun
  | [d1, d2, d3] => { results := [.lit (.bool true)], args := [d1, d2, d3] }
  | _ => none }
def recordDaysRow : OpenClaim := { program := "ytbeijeblbchglaa", sum := "a8612a8a4865eb9e5eae4742f4cadac53265e2360d12617664132f0f9b245663", func := "putlog/putloglaw09.RecordDays", spec := "recordDays", recurses := true, plainKeys := false, apart := false }
def RecordDaysSaid : Prop := recordDaysRow.holds Try.pinned (OpenSpec.ofChange recordDaysSpec)

/-- ITS FALSE NEIGHBOUR: 'it returns false'. Refute it at one input. -/
def recordDaysWrong : ChangeSpec := { name := "recordDays", fn := fun _ => fun
  | [d1, d2, d3] => { results := [.lit (.bool false)], args := [d1, d2, d3] }
  | _ => none }
def RecordDaysWrongFalsely : Prop := recordDaysRow.holds Try.pinned (OpenSpec.ofChange recordDaysWrong)

/- THE SECOND FORM. 'bulk': how many values and letters a reading holds, each counted each time it is reached (what is shared counts as often as it is met; a slice's spare places count too). A statement '..UptoSaid' is the law's where the arguments, and the package variables that the reading takes, are together of bulk at most 1048576: NARROWER than '..Said'. Prove '..Said' where nothing that the law and all that it calls make is longer than what came in: it says more and counts as full. Else prove '..UptoSaid'. A law counts once. -/
mutual
def uptoBulk {H : Type} : DataW H → Nat
  | .lit (.string bytes) => bytes.length + 1
  | .lit _ => 1
  | .nil => 1
  | .ptr d => uptoBulk d + 1
  | .slice elems spare => uptoBulkAll elems + uptoBulkAll spare + 1
  | .agg parts => uptoBulkAll parts + 1
  | .iface _ d => uptoBulk d + 1
  | .map entries => uptoBulkEntries entries + 1
  | .held _ => 1
def uptoBulkAll {H : Type} : List (DataW H) → Nat
  | [] => 0
  | d :: r => uptoBulk d + uptoBulkAll r
def uptoBulkEntries {H : Type} : List (Lit × DataW H) → Nat
  | [] => 0
  | x :: r => uptoBulkEntry x + uptoBulkEntries r
def uptoBulkEntry {H : Type} : Lit × DataW H → Nat
  | (.string bytes, d) => bytes.length + uptoBulk d + 1
  | (_, d) => uptoBulk d + 1
 end
def uptoSmall : (H : Type) → List (DataW H) → Bool := fun _ ds => decide (uptoBulkAll ds ≤ 1048576)
def OpenSpec.upto (s : _root_.Go.ChangeSpec) : _root_.Go.OpenSpec := { _root_.Go.OpenSpec.ofChange s with cond := some uptoSmall }

/-- 'putloglaw09.RecordCorrects', WHERE WHAT IT READS IS OF BULK AT MOST 1048576: true; the input reads as it did. -/
def recordCorrectsUptoRow : OpenClaim := { program := "ytbeijeblbchglaa", sum := "a8612a8a4865eb9e5eae4742f4cadac53265e2360d12617664132f0f9b245663", func := "putlog/putloglaw09.RecordCorrects", spec := "recordCorrects", recurses := true, plainKeys := false, apart := false, narrowed := true }
def RecordCorrectsUptoSaid : Prop := recordCorrectsUptoRow.holds Try.pinned (OpenSpec.upto recordCorrectsSpec)

/-- 'putloglaw09.RecordReleases', WHERE WHAT IT READS IS OF BULK AT MOST 1048576: true; the input reads as it did. -/
def recordReleasesUptoRow : OpenClaim := { program := "ytbeijeblbchglaa", sum := "a8612a8a4865eb9e5eae4742f4cadac53265e2360d12617664132f0f9b245663", func := "putlog/putloglaw09.RecordReleases", spec := "recordReleases", recurses := true, plainKeys := false, apart := false, narrowed := true }
def RecordReleasesUptoSaid : Prop := recordReleasesUptoRow.holds Try.pinned (OpenSpec.upto recordReleasesSpec)

/-- 'putloglaw09.RecordMoves', WHERE WHAT IT READS IS OF BULK AT MOST 1048576: true; the input reads as it did. -/
def recordMovesUptoRow : OpenClaim := { program := "ytbeijeblbchglaa", sum := "a8612a8a4865eb9e5eae4742f4cadac53265e2360d12617664132f0f9b245663", func := "putlog/putloglaw09.RecordMoves", spec := "recordMoves", recurses := true, plainKeys := false, apart := false, narrowed := true }
def RecordMovesUptoSaid : Prop := recordMovesUptoRow.holds Try.pinned (OpenSpec.upto recordMovesSpec)

/-- 'putloglaw09.RecordWeeks', WHERE WHAT IT READS IS OF BULK AT MOST 1048576: true; the input reads as it did. -/
def recordWeeksUptoRow : OpenClaim := { program := "ytbeijeblbchglaa", sum := "a8612a8a4865eb9e5eae4742f4cadac53265e2360d12617664132f0f9b245663", func := "putlog/putloglaw09.RecordWeeks", spec := "recordWeeks", recurses := true, plainKeys := false, apart := false, narrowed := true }
def RecordWeeksUptoSaid : Prop := recordWeeksUptoRow.holds Try.pinned (OpenSpec.upto recordWeeksSpec)

/-- 'putloglaw09.RecordAccounts', WHERE WHAT IT READS IS OF BULK AT MOST 1048576: true; the input reads as it did. -/
def recordAccountsUptoRow : OpenClaim := { program := "ytbeijeblbchglaa", sum := "a8612a8a4865eb9e5eae4742f4cadac53265e2360d12617664132f0f9b245663", func := "putlog/putloglaw09.RecordAccounts", spec := "recordAccounts", recurses := true, plainKeys := false, apart := false, narrowed := true }
def RecordAccountsUptoSaid : Prop := recordAccountsUptoRow.holds Try.pinned (OpenSpec.upto recordAccountsSpec)

/-- 'putloglaw09.RecordTotals', WHERE WHAT IT READS IS OF BULK AT MOST 1048576: true; the input reads as it did. -/
def recordTotalsUptoRow : OpenClaim := { program := "ytbeijeblbchglaa", sum := "a8612a8a4865eb9e5eae4742f4cadac53265e2360d12617664132f0f9b245663", func := "putlog/putloglaw09.RecordTotals", spec := "recordTotals", recurses := true, plainKeys := false, apart := false, narrowed := true }
def RecordTotalsUptoSaid : Prop := recordTotalsUptoRow.holds Try.pinned (OpenSpec.upto recordTotalsSpec)

/-- 'putloglaw09.RecordInvoices', WHERE WHAT IT READS IS OF BULK AT MOST 1048576: true; the input reads as it did. -/
def recordInvoicesUptoRow : OpenClaim := { program := "ytbeijeblbchglaa", sum := "a8612a8a4865eb9e5eae4742f4cadac53265e2360d12617664132f0f9b245663", func := "putlog/putloglaw09.RecordInvoices", spec := "recordInvoices", recurses := true, plainKeys := false, apart := false, narrowed := true }
def RecordInvoicesUptoSaid : Prop := recordInvoicesUptoRow.holds Try.pinned (OpenSpec.upto recordInvoicesSpec)

/-- 'putloglaw09.RecordDays', WHERE WHAT IT READS IS OF BULK AT MOST 1048576: true; the input reads as it did. -/
def recordDaysUptoRow : OpenClaim := { program := "ytbeijeblbchglaa", sum := "a8612a8a4865eb9e5eae4742f4cadac53265e2360d12617664132f0f9b245663", func := "putlog/putloglaw09.RecordDays", spec := "recordDays", recurses := true, plainKeys := false, apart := false, narrowed := true }
def RecordDaysUptoSaid : Prop := recordDaysUptoRow.holds Try.pinned (OpenSpec.upto recordDaysSpec)

end Rows
end Go.Proofs.Ytbeijeblbchglaa
