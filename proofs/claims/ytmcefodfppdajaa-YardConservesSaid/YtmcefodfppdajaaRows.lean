/-
  No cell of these rows narrows 'for every input' (looked for: loops, veiled, ifaces, maps, wideKeys, modest, calm, conditions, laid).
  DERIVED. THE GIVEN ROWS OF THIS SEAT. 9 by the template 'for every input the law returns true; each argument reads behind the call as it read before'; 0 by the template 'total and deterministic' (their statements: YtmcefodfppdajaaTotals.lean).
  GIVEN WITH THE SEED: the statements are not yours to turn. If you find one false, say at which input.
  Laid BY PROGRAM, IN A SANDBOX (cutbox-rows.mjs): the forced cells as the released guide's own fill.sh prints them over the translation 0f2521ea3436a123… (all of the seat's roots in one cut). By AI agents, Wed Nov 11 2026. No macro, syntax, notation, axiom, sorry.
-/
import Derived.Test.YtmcefodfppdajaaChecked
import GoSem.Claim
import GoSem.ClaimJoined
import GoSem.ClaimMapViews
import Derived.JoinedTies
import Derived.KernelRfl
namespace Go.Proofs.Ytmcefodfppdajaa
/- THE CELL 'sum', in the pinned program and in every row, IS THE sha256 OF THE DUMP (.gsa) THAT YtmcefodfppdajaaProg.lean LOADS. Nothing in Lean hashes anything: it is a label: what it is worth is what the hold of that sum in a sandbox is worth. -/
noncomputable def Try.pinned : Pinned := { name := "ytmcefodfppdajaa", sum := "0f2521ea3436a123b623d2fef6d1ea73f5428444fd5c6d007504b71ee70383e9", checked := Try.checked }
namespace Rows
def none {H : Type} : Left H := { results := [], args := [] }

/-- 'putloglaw08.YardStocks': WHATEVER THE INPUT: true; the input reads as it did. -/
def yardStocksSpec : ChangeSpec := { name := "yardStocks", fn := fun _ => fun
  | [d1, d2, d3] => { results := [.lit (.bool true)], args := [d1, d2, d3] }
  | _ => none }
def yardStocksRow : OpenClaim := { program := "ytmcefodfppdajaa", sum := "0f2521ea3436a123b623d2fef6d1ea73f5428444fd5c6d007504b71ee70383e9", func := "putlog/putloglaw08.YardStocks", spec := "yardStocks", unfollowed := true, recurses := true, plainKeys := false, apart := false }
def YardStocksSaid : Prop := yardStocksRow.holds Try.pinned (OpenSpec.ofChange yardStocksSpec)

/-- ITS FALSE NEIGHBOUR: 'it returns false'. Refute it at one input. -/
def yardStocksWrong : ChangeSpec := { name := "yardStocks", fn := fun _ => fun
  | [d1, d2, d3] => { results := [.lit (.bool false)], args := [d1, d2, d3] }
  | _ => none }
def YardStocksWrongFalsely : Prop := yardStocksRow.holds Try.pinned (OpenSpec.ofChange yardStocksWrong)

/-- 'putloglaw08.YardMoves': WHATEVER THE INPUT: true; the input reads as it did. -/
def yardMovesSpec : ChangeSpec := { name := "yardMoves", fn := fun _ => fun
  | [d1, d2] => { results := [.lit (.bool true)], args := [d1, d2] }
  | _ => none }
def yardMovesRow : OpenClaim := { program := "ytmcefodfppdajaa", sum := "0f2521ea3436a123b623d2fef6d1ea73f5428444fd5c6d007504b71ee70383e9", func := "putlog/putloglaw08.YardMoves", spec := "yardMoves", unfollowed := true, recurses := true, plainKeys := false, apart := false }
def YardMovesSaid : Prop := yardMovesRow.holds Try.pinned (OpenSpec.ofChange yardMovesSpec)

/-- ITS FALSE NEIGHBOUR: 'it returns false'. Refute it at one input. -/
def yardMovesWrong : ChangeSpec := { name := "yardMoves", fn := fun _ => fun
  | [d1, d2] => { results := [.lit (.bool false)], args := [d1, d2] }
  | _ => none }
def YardMovesWrongFalsely : Prop := yardMovesRow.holds Try.pinned (OpenSpec.ofChange yardMovesWrong)

/-- 'putloglaw08.YardRows': WHATEVER THE INPUT: true; the input reads as it did. -/
def yardRowsSpec : ChangeSpec := { name := "yardRows", fn := fun _ => fun
  | [d1, d2] => { results := [.lit (.bool true)], args := [d1, d2] }
  | _ => none }
def yardRowsRow : OpenClaim := { program := "ytmcefodfppdajaa", sum := "0f2521ea3436a123b623d2fef6d1ea73f5428444fd5c6d007504b71ee70383e9", func := "putlog/putloglaw08.YardRows", spec := "yardRows", unfollowed := true, recurses := true, plainKeys := false, apart := false }
def YardRowsSaid : Prop := yardRowsRow.holds Try.pinned (OpenSpec.ofChange yardRowsSpec)

/-- ITS FALSE NEIGHBOUR: 'it returns false'. Refute it at one input. -/
def yardRowsWrong : ChangeSpec := { name := "yardRows", fn := fun _ => fun
  | [d1, d2] => { results := [.lit (.bool false)], args := [d1, d2] }
  | _ => none }
def YardRowsWrongFalsely : Prop := yardRowsRow.holds Try.pinned (OpenSpec.ofChange yardRowsWrong)

/-- 'putloglaw08.YardConserves': WHATEVER THE INPUT: true; the input reads as it did. -/
def yardConservesSpec : ChangeSpec := { name := "yardConserves", fn := fun _ => fun
  | [d1, d2, d3] => { results := [.lit (.bool true)], args := [d1, d2, d3] }
  | _ => none }
def yardConservesRow : OpenClaim := { program := "ytmcefodfppdajaa", sum := "0f2521ea3436a123b623d2fef6d1ea73f5428444fd5c6d007504b71ee70383e9", func := "putlog/putloglaw08.YardConserves", spec := "yardConserves", unfollowed := true, recurses := true, plainKeys := false, apart := false }
def YardConservesSaid : Prop := yardConservesRow.holds Try.pinned (OpenSpec.ofChange yardConservesSpec)

/-- ITS FALSE NEIGHBOUR: 'it returns false'. Refute it at one input. -/
def yardConservesWrong : ChangeSpec := { name := "yardConserves", fn := fun _ => fun
  | [d1, d2, d3] => { results := [.lit (.bool false)], args := [d1, d2, d3] }
  | _ => none }
def YardConservesWrongFalsely : Prop := yardConservesRow.holds Try.pinned (OpenSpec.ofChange yardConservesWrong)

/-- 'putloglaw08.YardPicks': WHATEVER THE INPUT: true; the input reads as it did. -/
def yardPicksSpec : ChangeSpec := { name := "yardPicks", fn := fun _ => fun
  | [d1, d2] => { results := [.lit (.bool true)], args := [d1, d2] }
  | _ => none }
def yardPicksRow : OpenClaim := { program := "ytmcefodfppdajaa", sum := "0f2521ea3436a123b623d2fef6d1ea73f5428444fd5c6d007504b71ee70383e9", func := "putlog/putloglaw08.YardPicks", spec := "yardPicks", unfollowed := true, recurses := true, plainKeys := false, apart := false }
def YardPicksSaid : Prop := yardPicksRow.holds Try.pinned (OpenSpec.ofChange yardPicksSpec)

/-- ITS FALSE NEIGHBOUR: 'it returns false'. Refute it at one input. -/
def yardPicksWrong : ChangeSpec := { name := "yardPicks", fn := fun _ => fun
  | [d1, d2] => { results := [.lit (.bool false)], args := [d1, d2] }
  | _ => none }
def YardPicksWrongFalsely : Prop := yardPicksRow.holds Try.pinned (OpenSpec.ofChange yardPicksWrong)

/-- 'putloglaw08.YardPicked': WHATEVER THE INPUT: true; the input reads as it did. -/
def yardPickedSpec : ChangeSpec := { name := "yardPicked", fn := fun _ => fun
  | [d1, d2, d3] => { results := [.lit (.bool true)], args := [d1, d2, d3] }
  | _ => none }
def yardPickedRow : OpenClaim := { program := "ytmcefodfppdajaa", sum := "0f2521ea3436a123b623d2fef6d1ea73f5428444fd5c6d007504b71ee70383e9", func := "putlog/putloglaw08.YardPicked", spec := "yardPicked", unfollowed := true, recurses := true, plainKeys := false, apart := false }
def YardPickedSaid : Prop := yardPickedRow.holds Try.pinned (OpenSpec.ofChange yardPickedSpec)

/-- ITS FALSE NEIGHBOUR: 'it returns false'. Refute it at one input. -/
def yardPickedWrong : ChangeSpec := { name := "yardPicked", fn := fun _ => fun
  | [d1, d2, d3] => { results := [.lit (.bool false)], args := [d1, d2, d3] }
  | _ => none }
def YardPickedWrongFalsely : Prop := yardPickedRow.holds Try.pinned (OpenSpec.ofChange yardPickedWrong)

/-- 'putloglaw08.YardTrips': WHATEVER THE INPUT: true; the input reads as it did. -/
def yardTripsSpec : ChangeSpec := { name := "yardTrips", fn := fun _ => fun
  | [d1, d2] => { results := [.lit (.bool true)], args := [d1, d2] }
  | _ => none }
def yardTripsRow : OpenClaim := { program := "ytmcefodfppdajaa", sum := "0f2521ea3436a123b623d2fef6d1ea73f5428444fd5c6d007504b71ee70383e9", func := "putlog/putloglaw08.YardTrips", spec := "yardTrips", unfollowed := true, recurses := true, plainKeys := false, apart := false }
def YardTripsSaid : Prop := yardTripsRow.holds Try.pinned (OpenSpec.ofChange yardTripsSpec)

/-- ITS FALSE NEIGHBOUR: 'it returns false'. Refute it at one input. -/
def yardTripsWrong : ChangeSpec := { name := "yardTrips", fn := fun _ => fun
  | [d1, d2] => { results := [.lit (.bool false)], args := [d1, d2] }
  | _ => none }
def YardTripsWrongFalsely : Prop := yardTripsRow.holds Try.pinned (OpenSpec.ofChange yardTripsWrong)

/-- 'putloglaw08.YardCuts': WHATEVER THE INPUT: true; the input reads as it did. -/
def yardCutsSpec : ChangeSpec := { name := "yardCuts", fn := fun _ => fun
  | [d1, d2] => { results := [.lit (.bool true)], args := [d1, d2] }
  | _ => none }
def yardCutsRow : OpenClaim := { program := "ytmcefodfppdajaa", sum := "0f2521ea3436a123b623d2fef6d1ea73f5428444fd5c6d007504b71ee70383e9", func := "putlog/putloglaw08.YardCuts", spec := "yardCuts", unfollowed := true, recurses := true, plainKeys := false, apart := false }
def YardCutsSaid : Prop := yardCutsRow.holds Try.pinned (OpenSpec.ofChange yardCutsSpec)

/-- ITS FALSE NEIGHBOUR: 'it returns false'. Refute it at one input. -/
def yardCutsWrong : ChangeSpec := { name := "yardCuts", fn := fun _ => fun
  | [d1, d2] => { results := [.lit (.bool false)], args := [d1, d2] }
  | _ => none }
def YardCutsWrongFalsely : Prop := yardCutsRow.holds Try.pinned (OpenSpec.ofChange yardCutsWrong)

/-- 'putloglaw08.YardLoads': WHATEVER THE INPUT: true; the input reads as it did. -/
def yardLoadsSpec : ChangeSpec := { name := "yardLoads", fn := fun _ => fun
  | [d1, d2, d3] => { results := [.lit (.bool true)], args := [d1, d2, d3] }
  | _ => none }
def yardLoadsRow : OpenClaim := { program := "ytmcefodfppdajaa", sum := "0f2521ea3436a123b623d2fef6d1ea73f5428444fd5c6d007504b71ee70383e9", func := "putlog/putloglaw08.YardLoads", spec := "yardLoads", unfollowed := true, recurses := true, plainKeys := false, apart := false }
def YardLoadsSaid : Prop := yardLoadsRow.holds Try.pinned (OpenSpec.ofChange yardLoadsSpec)

/-- ITS FALSE NEIGHBOUR: 'it returns false'. Refute it at one input. -/
def yardLoadsWrong : ChangeSpec := { name := "yardLoads", fn := fun _ => fun
  | [d1, d2, d3] => { results := [.lit (.bool false)], args := [d1, d2, d3] }
  | _ => none }
def YardLoadsWrongFalsely : Prop := yardLoadsRow.holds Try.pinned (OpenSpec.ofChange yardLoadsWrong)

/- THE SECOND FORM. 'bulk': how many values and letters a reading holds, each counted each time it is reached (what is shared counts as often as it is met; a slice's spare places count too). A statement '..UptoSaid' is the law's where the arguments, and the package variables that the reading takes, are together of bulk at most 1048576: NARROWER than '..Said'. Prove '..Said' where nothing that the law and all that it calls make is longer than what came in: it says more and counts as full. Else prove '..UptoSaid'. A law counts once. -/
mutual
def uptoBulk {H : Type} : DataW H → Nat
  | .lit (.string bytes) => bytes.length + 1
  | .lit _ => 1
  | .nil => 1
  | .ptr d => uptoBulk d + 1
  | .slice elems spare => uptoBulkAll elems + uptoBulkAll spare + 1
  | .agg parts => uptoBulkAll parts + 1
  | .iface _ d => uptoBulk d + 1
  | .map entries => uptoBulkEntries entries + 1
  | .held _ => 1
def uptoBulkAll {H : Type} : List (DataW H) → Nat
  | [] => 0
  | d :: r => uptoBulk d + uptoBulkAll r
def uptoBulkEntries {H : Type} : List (Lit × DataW H) → Nat
  | [] => 0
  | x :: r => uptoBulkEntry x + uptoBulkEntries r
def uptoBulkEntry {H : Type} : Lit × DataW H → Nat
  | (.string bytes, d) => bytes.length + uptoBulk d + 1
  | (_, d) => uptoBulk d + 1
 end
def uptoSmall : (H : Type) → List (DataW H) → Bool := fun _ ds => decide (uptoBulkAll ds ≤ 1048576)
def OpenSpec.upto (s : _root_.Go.ChangeSpec) : _root_.Go.OpenSpec := { _root_.Go.OpenSpec.ofChange s with cond := some uptoSmall }

/-- 'putloglaw08.YardStocks', WHERE WHAT IT READS IS OF BULK AT MOST 1048576: true; the input reads as it did. -/
def yardStocksUptoRow : OpenClaim := { program := "ytmcefodfppdajaa", sum := "0f2521ea3436a123b623d2fef6d1ea73f5428444fd5c6d007504b71ee70383e9", func := "putlog/putloglaw08.YardStocks", spec := "yardStocks", unfollowed := true, recurses := true, plainKeys := false, apart := false, narrowed := true }
def YardStocksUptoSaid : Prop := yardStocksUptoRow.holds Try.pinned (OpenSpec.upto yardStocksSpec)

/-- 'putloglaw08.YardMoves', WHERE WHAT IT READS IS OF BULK AT MOST 1048576: true; the input reads as it did. -/
def yardMovesUptoRow : OpenClaim := { program := "ytmcefodfppdajaa", sum := "0f2521ea3436a123b623d2fef6d1ea73f5428444fd5c6d007504b71ee70383e9", func := "putlog/putloglaw08.YardMoves", spec := "yardMoves", unfollowed := true, recurses := true, plainKeys := false, apart := false, narrowed := true }
def YardMovesUptoSaid : Prop := yardMovesUptoRow.holds Try.pinned (OpenSpec.upto yardMovesSpec)

/-- 'putloglaw08.YardRows', WHERE WHAT IT READS IS OF BULK AT MOST 1048576: true; the input reads as it did. -/
def yardRowsUptoRow : OpenClaim := { program := "ytmcefodfppdajaa", sum := "0f2521ea3436a123b623d2fef6d1ea73f5428444fd5c6d007504b71ee70383e9", func := "putlog/putloglaw08.YardRows", spec := "yardRows", unfollowed := true, recurses := true, plainKeys := false, apart := false, narrowed := true }
def YardRowsUptoSaid : Prop := yardRowsUptoRow.holds Try.pinned (OpenSpec.upto yardRowsSpec)

/-- 'putloglaw08.YardConserves', WHERE WHAT IT READS IS OF BULK AT MOST 1048576: true; the input reads as it did. -/
def yardConservesUptoRow : OpenClaim := { program := "ytmcefodfppdajaa", sum := "0f2521ea3436a123b623d2fef6d1ea73f5428444fd5c6d007504b71ee70383e9", func := "putlog/putloglaw08.YardConserves", spec := "yardConserves", unfollowed := true, recurses := true, plainKeys := false, apart := false, narrowed := true }
def YardConservesUptoSaid : Prop := yardConservesUptoRow.holds Try.pinned (OpenSpec.upto yardConservesSpec)

/-- 'putloglaw08.YardPicks', WHERE WHAT IT READS IS OF BULK AT MOST 1048576: true; the input reads as it did. -/
def yardPicksUptoRow : OpenClaim := { program := "ytmcefodfppdajaa", sum := "0f2521ea3436a123b623d2fef6d1ea73f5428444fd5c6d007504b71ee70383e9", func := "putlog/putloglaw08.YardPicks", spec := "yardPicks", unfollowed := true, recurses := true, plainKeys := false, apart := false, narrowed := true }
def YardPicksUptoSaid : Prop := yardPicksUptoRow.holds Try.pinned (OpenSpec.upto yardPicksSpec)

/-- 'putloglaw08.YardPicked', WHERE WHAT IT READS IS OF BULK AT MOST 1048576: true; the input reads as it did. -/
def yardPickedUptoRow : OpenClaim := { program := "ytmcefodfppdajaa", sum := "0f2521ea3436a123b623d2fef6d1ea73f5428444fd5c6d007504b71ee70383e9", func := "putlog/putloglaw08.YardPicked", spec := "yardPicked", unfollowed := true, recurses := true, plainKeys := false, apart := false, narrowed := true }
def YardPickedUptoSaid : Prop := yardPickedUptoRow.holds Try.pinned (OpenSpec.upto yardPickedSpec)

/-- 'putloglaw08.YardTrips', WHERE WHAT IT READS IS OF BULK AT MOST 1048576: true; the input reads as it did. -/
def yardTripsUptoRow : OpenClaim := { program := "ytmcefodfppdajaa", sum := "0f2521ea3436a123b623d2fef6d1ea73f5428444fd5c6d007504b71ee70383e9", func := "putlog/putloglaw08.YardTrips", spec := "yardTrips", unfollowed := true, recurses := true, plainKeys := false, apart := false, narrowed := true }
def YardTripsUptoSaid : Prop := yardTripsUptoRow.holds Try.pinned (OpenSpec.upto yardTripsSpec)

/-- 'putloglaw08.YardCuts', WHERE WHAT IT READS IS OF BULK AT MOST 1048576: true; the input reads as it did. -/
def yardCutsUptoRow : OpenClaim := { program := "ytmcefodfppdajaa", sum := "0f2521ea3436a123b623d2fef6d1ea73f5428444fd5c6d007504b71ee70383e9", func := "putlog/putloglaw08.YardCuts", spec := "yardCuts", unfollowed := true, recurses := true, plainKeys := false, apart := false, narrowed := true }
def YardCutsUptoSaid : Prop := yardCutsUptoRow.holds Try.pinned (OpenSpec.upto yardCutsSpec)

/-- 'putloglaw08.YardLoads', WHERE WHAT IT READS IS OF BULK AT MOST 1048576: true; the input reads as it did. -/
def yardLoadsUptoRow : OpenClaim := { program := "ytmcefodfppdajaa", sum := "0f2521ea3436a123b623d2fef6d1ea73f5428444fd5c6d007504b71ee70383e9", func := "putlog/putloglaw08.YardLoads", spec := "yardLoads", unfollowed := true, recurses := true, plainKeys := false, apart := false, narrowed := true }
def YardLoadsUptoSaid : Prop := yardLoadsUptoRow.holds Try.pinned (OpenSpec.upto yardLoadsSpec)

end Rows
end Go.Proofs.Ytmcefodfppdajaa
