/-
  No cell of these rows narrows 'for every input' (looked for: loops, veiled, ifaces, maps, wideKeys, modest, calm, conditions, laid).
  DERIVED. THE GIVEN ROWS OF THIS SEAT. 6 by the template 'for every input the law returns true; each argument reads behind the call as it read before'; 0 by the template 'total and deterministic' (their statements: YtgjjjnofdjhikaaTotals.lean).
  GIVEN WITH THE SEED: the statements are not yours to turn. If you find one false, say at which input.
  Laid BY PROGRAM, IN A SANDBOX (cutbox-rows.mjs): the forced cells as the released guide's own fill.sh prints them over the translation 836897cf6aec0234… (all of the seat's roots in one cut). By AI agents, Wed Nov 11 2026. No macro, syntax, notation, axiom, sorry.
-/
import Derived.Test.YtgjjjnofdjhikaaChecked
import GoSem.Claim
import GoSem.ClaimJoined
import GoSem.ClaimMapViews
import Derived.JoinedTies
import Derived.KernelRfl
namespace Go.Proofs.Ytgjjjnofdjhikaa
/- THE CELL 'sum', in the pinned program and in every row, IS THE sha256 OF THE DUMP (.gsa) THAT YtgjjjnofdjhikaaProg.lean LOADS. Nothing in Lean hashes anything: it is a label: what it is worth is what the hold of that sum in a sandbox is worth. -/
noncomputable def Try.pinned : Pinned := { name := "ytgjjjnofdjhikaa", sum := "836897cf6aec0234fe51ed00f46c3f498c2b26b1e481e96841565e58a7fc1a39", checked := Try.checked }
namespace Rows
def none {H : Type} : Left H := { results := [], args := [] }

/-- 'putloglaw09.RecordChecks': WHATEVER THE INPUT: true; the input reads as it did. -/
def recordChecksSpec : ChangeSpec := { name := "recordChecks", fn := fun _ => fun
  | [d1, d2] => { results := [.lit (.bool true)], args := [d1, d2] }
  | _ => none }
def recordChecksRow : OpenClaim := { program := "ytgjjjnofdjhikaa", sum := "836897cf6aec0234fe51ed00f46c3f498c2b26b1e481e96841565e58a7fc1a39", func := "putlog/putloglaw09.RecordChecks", spec := "recordChecks", recurses := true, plainKeys := false, apart := false }
def RecordChecksSaid : Prop := recordChecksRow.holds Try.pinned (OpenSpec.ofChange recordChecksSpec)

/-- ITS FALSE NEIGHBOUR: 'it returns false'. Refute it at one input. -/
def recordChecksWrong : ChangeSpec := { name := "recordChecks", fn := fun _ => fun
  | [d1, d2] => { results := [.lit (.bool false)], args := [d1, d2] }
  | _ => none }
def RecordChecksWrongFalsely : Prop := recordChecksRow.holds Try.pinned (OpenSpec.ofChange recordChecksWrong)

/-- 'putloglaw09.RecordTags': WHATEVER THE INPUT: true; the input reads as it did. -/
def recordTagsSpec : ChangeSpec := { name := "recordTags", fn := fun _ => fun
  | [d1, d2, d3] => { results := [.lit (.bool true)], args := [d1, d2, d3] }
  | _ => none }
def recordTagsRow : OpenClaim := { program := "ytgjjjnofdjhikaa", sum := "836897cf6aec0234fe51ed00f46c3f498c2b26b1e481e96841565e58a7fc1a39", func := "putlog/putloglaw09.RecordTags", spec := "recordTags", recurses := true, plainKeys := false, apart := false }
def RecordTagsSaid : Prop := recordTagsRow.holds Try.pinned (OpenSpec.ofChange recordTagsSpec)

/-- ITS FALSE NEIGHBOUR: 'it returns false'. Refute it at one input. -/
def recordTagsWrong : ChangeSpec := { name := "recordTags", fn := fun _ => fun
  | [d1, d2, d3] => { results := [.lit (.bool false)], args := [d1, d2, d3] }
  | _ => none }
def RecordTagsWrongFalsely : Prop := recordTagsRow.holds Try.pinned (OpenSpec.ofChange recordTagsWrong)

/-- 'putloglaw09.RecordHistories': WHATEVER THE INPUT: true; the input reads as it did. -/
def recordHistoriesSpec : ChangeSpec := { name := "recordHistories", fn := fun _ => fun
  | [d1, d2] => { results := [.lit (.bool true)], args := [d1, d2] }
  | _ => none }
def recordHistoriesRow : OpenClaim := { program := "ytgjjjnofdjhikaa", sum := "836897cf6aec0234fe51ed00f46c3f498c2b26b1e481e96841565e58a7fc1a39", func := "putlog/putloglaw09.RecordHistories", spec := "recordHistories", recurses := true, plainKeys := false, apart := false }
def RecordHistoriesSaid : Prop := recordHistoriesRow.holds Try.pinned (OpenSpec.ofChange recordHistoriesSpec)

/-- ITS FALSE NEIGHBOUR: 'it returns false'. Refute it at one input. -/
def recordHistoriesWrong : ChangeSpec := { name := "recordHistories", fn := fun _ => fun
  | [d1, d2] => { results := [.lit (.bool false)], args := [d1, d2] }
  | _ => none }
def RecordHistoriesWrongFalsely : Prop := recordHistoriesRow.holds Try.pinned (OpenSpec.ofChange recordHistoriesWrong)

/-- 'putloglaw09.RecordDue': WHATEVER THE INPUT: true; the input reads as it did. -/
def recordDueSpec : ChangeSpec := { name := "recordDue", fn := fun _ => fun
  | [d1, d2] => { results := [.lit (.bool true)], args := [d1, d2] }
  | _ => none }
def recordDueRow : OpenClaim := { program := "ytgjjjnofdjhikaa", sum := "836897cf6aec0234fe51ed00f46c3f498c2b26b1e481e96841565e58a7fc1a39", func := "putlog/putloglaw09.RecordDue", spec := "recordDue", unfollowed := true, recurses := true, plainKeys := false, apart := false }
def RecordDueSaid : Prop := recordDueRow.holds Try.pinned (OpenSpec.ofChange recordDueSpec)

/-- ITS FALSE NEIGHBOUR: 'it returns false'. Refute it at one input. -/
def recordDueWrong : ChangeSpec := { name := "recordDue", fn := fun _ => fun
  | [d1, d2] => { results := [.lit (.bool false)], args := [d1, d2] }
  | _ => none }
def RecordDueWrongFalsely : Prop := recordDueRow.holds Try.pinned (OpenSpec.ofChange recordDueWrong)

/-- 'putloglaw09.RecordReleases': WHATEVER THE INPUT: true; the input reads as it did. -/
def recordReleasesSpec : ChangeSpec := { name := "recordReleases", fn := fun _ => fun
  | [d1, d2, d3] => { results := [.lit (.bool true)], args := [d1, d2, d3] }
  | _ => none }
def recordReleasesRow : OpenClaim := { program := "ytgjjjnofdjhikaa", sum := "836897cf6aec0234fe51ed00f46c3f498c2b26b1e481e96841565e58a7fc1a39", func := "putlog/putloglaw09.RecordReleases", spec := "recordReleases", recurses := true, plainKeys := false, apart := false }
def RecordReleasesSaid : Prop := recordReleasesRow.holds Try.pinned (OpenSpec.ofChange recordReleasesSpec)

/-- ITS FALSE NEIGHBOUR: 'it returns false'. Refute it at one input. -/
def recordReleasesWrong : ChangeSpec := { name := "recordReleases", fn := fun _ => fun
  | [d1, d2, d3] => { results := [.lit (.bool false)], args := [d1, d2, d3] }
  | _ => none }
def RecordReleasesWrongFalsely : Prop := recordReleasesRow.holds Try.pinned (OpenSpec.ofChange recordReleasesWrong)

/-- 'putloglaw09.RecordForgets': WHATEVER THE INPUT: true; the input reads as it did. -/
def recordForgetsSpec : ChangeSpec := { name := "recordForgets", fn := fun _ => fun
  | [d1, d2, d3] => { results := [.lit (.bool true)], args := [d1, d2, d3] }
  | _ => none }
def recordForgetsRow : OpenClaim := { program := "ytgjjjnofdjhikaa", sum := "836897cf6aec0234fe51ed00f46c3f498c2b26b1e481e96841565e58a7fc1a39", func := "putlog/putloglaw09.RecordForgets", spec := "recordForgets", recurses := true, plainKeys := false, apart := false }
def RecordForgetsSaid : Prop := recordForgetsRow.holds Try.pinned (OpenSpec.ofChange recordForgetsSpec)

/-- ITS FALSE NEIGHBOUR: 'it returns false'. Refute it at one input. -/
def recordForgetsWrong : ChangeSpec := { name := "recordForgets", fn := fun _ => fun
  | [d1, d2, d3] => { results := [.lit (.bool false)], args := [d1, d2, d3] }
  | _ => none }
def RecordForgetsWrongFalsely : Prop := recordForgetsRow.holds Try.pinned (OpenSpec.ofChange recordForgetsWrong)

/- THE SECOND FORM. 'bulk': how many values and letters a reading holds, each counted each time it is reached (what is shared counts as often as it is met; a slice's spare places count too). A statement '..UptoSaid' is the law's where the arguments, and the package variables that the reading takes, are together of bulk at most 1048576: NARROWER than '..Said'. Prove '..Said' where nothing that the law and all that it calls make is longer than what came in: it says more and counts as full. Else prove '..UptoSaid'. A law counts once. -/
mutual
def uptoBulk {H : Type} : DataW H → Nat
  | .lit (.string bytes) => bytes.length + 1
  | .lit _ => 1
  | .nil => 1
  | .ptr d => uptoBulk d + 1
  | .slice elems spare => uptoBulkAll elems + uptoBulkAll spare + 1
  | .agg parts => uptoBulkAll parts + 1
  | .iface _ d => uptoBulk d + 1
  | .map entries => uptoBulkEntries entries + 1
  | .held _ => 1
def uptoBulkAll {H : Type} : List (DataW H) → Nat
  | [] => 0
  | d :: r => uptoBulk d + uptoBulkAll r
def uptoBulkEntries {H : Type} : List (Lit × DataW H) → Nat
  | [] => 0
  | x :: r => uptoBulkEntry x + uptoBulkEntries r
def uptoBulkEntry {H : Type} : Lit × DataW H → Nat
  | (.string bytes, d) => bytes.length + uptoBulk d + 1
  | (_, d) => uptoBulk d + 1
 end
def uptoSmall : (H : Type) → List (DataW H) → Bool := fun _ ds => decide (uptoBulkAll ds ≤ 1048576)
def OpenSpec.upto (s : _root_.Go.ChangeSpec) : _root_.Go.OpenSpec := { _root_.Go.OpenSpec.ofChange s with cond := some uptoSmall }

/-- 'putloglaw09.RecordChecks', WHERE WHAT IT READS IS OF BULK AT MOST 1048576: true; the input reads as it did. -/
def recordChecksUptoRow : OpenClaim := { program := "ytgjjjnofdjhikaa", sum := "836897cf6aec0234fe51ed00f46c3f498c2b26b1e481e96841565e58a7fc1a39", func := "putlog/putloglaw09.RecordChecks", spec := "recordChecks", recurses := true, plainKeys := false, apart := false, narrowed := true }
def RecordChecksUptoSaid : Prop := recordChecksUptoRow.holds Try.pinned (OpenSpec.upto recordChecksSpec)

/-- 'putloglaw09.RecordTags', WHERE WHAT IT READS IS OF BULK AT MOST 1048576: true; the input reads as it did. -/
def recordTagsUptoRow : OpenClaim := { program := "ytgjjjnofdjhikaa", sum := "836897cf6aec0234fe51ed00f46c3f498c2b26b1e481e96841565e58a7fc1a39", func := "putlog/putloglaw09.RecordTags", spec := "recordTags", recurses := true, plainKeys := false, apart := false, narrowed := true }
def RecordTagsUptoSaid : Prop := recordTagsUptoRow.holds Try.pinned (OpenSpec.upto recordTagsSpec)

/-- 'putloglaw09.RecordHistories', WHERE WHAT IT READS IS OF BULK AT MOST 1048576: true; the input reads as it did. -/
def recordHistoriesUptoRow : OpenClaim := { program := "ytgjjjnofdjhikaa", sum := "836897cf6aec0234fe51ed00f46c3f498c2b26b1e481e96841565e58a7fc1a39", func := "putlog/putloglaw09.RecordHistories", spec := "recordHistories", recurses := true, plainKeys := false, apart := false, narrowed := true }
def RecordHistoriesUptoSaid : Prop := recordHistoriesUptoRow.holds Try.pinned (OpenSpec.upto recordHistoriesSpec)

/-- 'putloglaw09.RecordDue', WHERE WHAT IT READS IS OF BULK AT MOST 1048576: true; the input reads as it did. -/
def recordDueUptoRow : OpenClaim := { program := "ytgjjjnofdjhikaa", sum := "836897cf6aec0234fe51ed00f46c3f498c2b26b1e481e96841565e58a7fc1a39", func := "putlog/putloglaw09.RecordDue", spec := "recordDue", unfollowed := true, recurses := true, plainKeys := false, apart := false, narrowed := true }
def RecordDueUptoSaid : Prop := recordDueUptoRow.holds Try.pinned (OpenSpec.upto recordDueSpec)

/-- 'putloglaw09.RecordReleases', WHERE WHAT IT READS IS OF BULK AT MOST 1048576: true; the input reads as it did. -/
def recordReleasesUptoRow : OpenClaim := { program := "ytgjjjnofdjhikaa", sum := "836897cf6aec0234fe51ed00f46c3f498c2b26b1e481e96841565e58a7fc1a39", func := "putlog/putloglaw09.RecordReleases", spec := "recordReleases", recurses := true, plainKeys := false, apart := false, narrowed := true }
def RecordReleasesUptoSaid : Prop := recordReleasesUptoRow.holds Try.pinned (OpenSpec.upto recordReleasesSpec)

/-- 'putloglaw09.RecordForgets', WHERE WHAT IT READS IS OF BULK AT MOST 1048576: true; the input reads as it did. -/
def recordForgetsUptoRow : OpenClaim := { program := "ytgjjjnofdjhikaa", sum := "836897cf6aec0234fe51ed00f46c3f498c2b26b1e481e96841565e58a7fc1a39", func := "putlog/putloglaw09.RecordForgets", spec := "recordForgets", recurses := true, plainKeys := false, apart := false, narrowed := true }
def RecordForgetsUptoSaid : Prop := recordForgetsUptoRow.holds Try.pinned (OpenSpec.upto recordForgetsSpec)

end Rows
end Go.Proofs.Ytgjjjnofdjhikaa
