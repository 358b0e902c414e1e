/- Chapter 6: more arguments, opened: rows of ground, of ties; patterns, jacks. -/
import Derived.Test.YtfnphhmcbdoojaaGreatDoorLaid6
import Derived.Test.YtfnphhmcbdoojaaGreatDoorGr6
namespace Go.Proofs.YtfnphhmcbdoojaaGreatDoor
open Go.ChangeShapes Go.WideShapes Go.ChangeAt Go.RowKit Go.Joins Go.Deep

set_option maxRecDepth 100000 in
theorem ground_fields : ∃ f0 f1 f2 f3, Tryz.prog.underlying 77 = some (.struct #[f0, f1, f2, f3]) ∧ oneCellFields Tryz.prog #[f0, f1, f2, f3] = true ∧ f0.type = 3 ∧ f1.type = 3 ∧ f2.type = 3 ∧ f3.type = 3 := by
  exact ⟨(Tryz.prog.fieldsOf 77)[0]!, (Tryz.prog.fieldsOf 77)[1]!, (Tryz.prog.fieldsOf 77)[2]!, (Tryz.prog.fieldsOf 77)[3]!, by kernel_rfl, by kernel_rfl, by kernel_rfl, by kernel_rfl, by kernel_rfl, by kernel_rfl⟩
set_option maxRecDepth 100000 in
/-- An argument that is a ground. -/
theorem open_ground {H : Type} {enc : TypeId × Value → H} {w : World} {v : Value} {d : DataW H} {ps : List MemPlace} {r : Reach} {b0 : Nat}
    (hv : Value.okWide Tryz.prog w r b0 71 v) (h : DataW.Trod enc Tryz.prog w 0 (fun _ => true) true 71 v d ps) :
    ∃ (A : Option Addr) (n c : Nat) (l : List Gr), v = .slice A n c ∧ Grs w w.heap.size A n c l ∧ (A = none → n = 0 ∧ c = 0) := by
  obtain ⟨f0, f1, f2, f3, hu, ho, t0, t1, t2, t3⟩ := ground_fields
  exact open_gcells Tryz.underlying71 hu ho (by kernel_rfl) t0 t1 t2 t3 Tryz.underlying3 hv h
set_option maxRecDepth 100000 in
theorem tie_fields : ∃ f0 f1, Tryz.prog.underlying 95 = some (.struct #[f0, f1]) ∧ oneCellFields Tryz.prog #[f0, f1] = true ∧ f0.type = 3 ∧ f1.type = 3 := by
  exact ⟨(Tryz.prog.fieldsOf 95)[0]!, (Tryz.prog.fieldsOf 95)[1]!, by kernel_rfl, by kernel_rfl, by kernel_rfl, by kernel_rfl⟩
set_option maxRecDepth 100000 in
/-- An argument that is a list of ties. -/
theorem open_ties {H : Type} {enc : TypeId × Value → H} {w : World} {v : Value} {d : DataW H} {ps : List MemPlace} {r : Reach} {b0 : Nat}
    (hv : Value.okWide Tryz.prog w r b0 36 v) (h : DataW.Trod enc Tryz.prog w 0 (fun _ => true) true 36 v d ps) :
    ∃ (A : Option Addr) (n c : Nat) (l : List (Int × Int)), v = .slice A n c ∧ Pts w w.heap.size A n c l ∧ (A = none → n = 0 ∧ c = 0) := by
  obtain ⟨f0, f1, hu, ho, t0, t1⟩ := tie_fields
  exact open_pcells Tryz.underlying36 hu ho (by kernel_rfl) t0 t1 Tryz.underlying3 hv h
set_option maxRecDepth 100000 in
/-- An argument that is a pattern. -/
theorem open_pattern {H : Type} {enc : TypeId × Value → H} {w : World} {v : Value} {d : DataW H} {ps : List MemPlace} {r : Reach} {b0 : Nat}
    (hv : Value.okWide Tryz.prog w r b0 35 v) (h : DataW.Trod enc Tryz.prog w 0 (fun _ => true) true 35 v d ps) :
    ∃ a b c : Int, v = .agg #[.int .i64 a, .int .i64 b, .int .i64 c] := by
  obtain ⟨l0, hl0, rfl⟩ := open_ints_fields (fs := Tryz.prog.fieldsOf 35) (ti := 3) (by kernel_rfl) (by kernel_rfl) (by kernel_rfl) (ints_fields (by kernel_rfl)) Tryz.underlying3 hv h
  obtain ⟨a, b, c, rfl⟩ := three_of (hl0.trans (by kernel_rfl))
  exact ⟨a, b, c, rfl⟩
set_option maxRecDepth 100000 in
/-- An argument that is a list of numbers. -/
theorem open_ns {H : Type} {enc : TypeId × Value → H} {w : World} {v : Value} {d : DataW H} {ps : List MemPlace} {r : Reach} {b0 : Nat}
    (hv : Value.okWide Tryz.prog w r b0 22 v) (h : DataW.Trod enc Tryz.prog w 0 (fun _ => true) true 22 v d ps) :
    ∃ (A : Option Addr) (n c : Nat) (l : List Int), v = .slice A n c ∧ Nums w w.heap.size A n c l ∧ (A = none → n = 0 ∧ c = 0) := by
  obtain ⟨A, n, c, rfl⟩ := okWide_slice Tryz.underlying22 hv
  obtain ⟨fuel, hf⟩ := h
  obtain ⟨A', n', c', l, e, h1, h2⟩ := open_nums (u := .slice A n c) Tryz.underlying22 Tryz.underlying3 (by kernel_rfl) (by simpa [Value.cells] using hf)
  exact ⟨A', n', c', l, e, h1, h2⟩

end Go.Proofs.YtfnphhmcbdoojaaGreatDoor
