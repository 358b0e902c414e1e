/- Chapter 6: a start in which the listed tables lie as their initialisers lay them; closed facts of the arguments' types. -/
import Derived.Test.YtgljncfijcamhaaGreatDoorCards
import Derived.Test.YtgljncfijcamhaaGreatDoorTie
import Derived.Test.YtgljncfijcamhaaGreatDoorLift
import Derived.Test.YtgljncfijcamhaaGreatDoorOpen6
import Derived.OpenShut
import Derived.Deep.DeepHandedRow
import Derived.Lib.LaidTab
import Derived.LaidMore
namespace Go.Proofs.YtgljncfijcamhaaGreatDoor
open Go.ChangeShapes Go.WideShapes Go.ChangeAt Go.RowKit Go.Joins Go.Deep

/-- The door's own heap meets the condition. -/
theorem door_met (os : Os) (args : Array Value) : laidMetH Tryz.prog Rows.holdingJacksRow.laid ((World.doorLaid Tryz.prog 400 os).forCall (fun _ _ => 0) ⟨#[], args, []⟩).memory :=
  laidMetH_of_parts3 (fuel := 8) (laidMet_of_run' 8 (by kernel_rfl) (by kernel_rfl)) (by kernel_rfl) (by kernel_rfl)

set_option maxRecDepth 100000 in
theorem grid_fields : ∃ f0 f1 f2, Tryz.prog.underlying 24 = some (.struct #[f0, f1, f2]) ∧ oneCellFields Tryz.prog #[f0, f1, f2] = true ∧ f0.type = 3 ∧ f1.type = 22 ∧ f2.type = 22 := by
  exact ⟨(Tryz.prog.fieldsOf 24)[0]!, (Tryz.prog.fieldsOf 24)[1]!, (Tryz.prog.fieldsOf 24)[2]!, by kernel_rfl, by kernel_rfl, by kernel_rfl, by kernel_rfl, by kernel_rfl⟩
set_option maxRecDepth 100000 in
/-- An argument that is a grid. -/
theorem open_g {H : Type} {enc : TypeId × Value → H} {w : World} {v : Value} {d : DataW H} {ps : List MemPlace} {r : Reach} {b0 : Nat}
    (hv : Value.okWide Tryz.prog w r b0 24 v) (h : DataW.Trod enc Tryz.prog w 0 (fun _ => true) true 24 v d ps) :
    ∃ (f : Int) (A : Option Addr) (n c : Nat) (A2 : Option Addr) (n2 c2 : Nat) (a lv : List Int), v = .agg #[.int .i64 f, .slice A n c, .slice A2 n2 c2] ∧ Nums w w.heap.size A n c a ∧ Nums w w.heap.size A2 n2 c2 lv := by
  obtain ⟨f0, f1, f2, hu, ho, t0, t1, t2⟩ := grid_fields
  exact open_grid hu ho (by kernel_rfl) t0 t1 t2 Tryz.underlying22 (by kernel_rfl) Tryz.underlying3 Tryz.underlying3 hv h
theorem ints_fields {t : TypeId} (h : (Tryz.prog.fieldsOf t).all (fun f => f.type == 3) = true) : ∀ (j : Nat) (f : Field), (Tryz.prog.fieldsOf t)[j]? = some f → f.type = 3 := by
  intro j f hj
  obtain ⟨hlt, rfl⟩ := Array.getElem?_eq_some_iff.1 hj
  have := Array.all_eq_true.1 h j hlt
  simpa using this
theorem five_of {l : List Int} (h : l.length = 5) : ∃ a b c d e, l = [a, b, c, d, e] := by
  match l, h with
  | [a, b, c, d, e], _ => exact ⟨a, b, c, d, e, rfl⟩
set_option maxRecDepth 100000 in
/-- An argument that is a rule. -/
theorem open_rule {H : Type} {enc : TypeId × Value → H} {w : World} {v : Value} {d : DataW H} {ps : List MemPlace} {r : Reach} {b0 : Nat}
    (hv : Value.okWide Tryz.prog w r b0 26 v) (h : DataW.Trod enc Tryz.prog w 0 (fun _ => true) true 26 v d ps) :
    ∃ a b c d e : Int, v = .agg #[.int .i64 a, .int .i64 b, .int .i64 c, .int .i64 d, .int .i64 e] := by
  obtain ⟨l0, hl0, rfl⟩ := open_ints_fields (fs := Tryz.prog.fieldsOf 26) (ti := 3) (by kernel_rfl) (by kernel_rfl) (by kernel_rfl) (ints_fields (by kernel_rfl)) Tryz.underlying3 hv h
  obtain ⟨a, b, c, d, e, rfl⟩ := five_of (hl0.trans (by kernel_rfl))
  exact ⟨a, b, c, d, e, rfl⟩

end Go.Proofs.YtgljncfijcamhaaGreatDoor
