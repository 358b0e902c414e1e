/- Chapter 6: more arguments, opened: rows of ground, of ties; patterns, jacks. -/
import Derived.Test.YtgljncfijcamhaaGreatDoorLaid6
import Derived.Test.YtgljncfijcamhaaGreatDoorGr6
namespace Go.Proofs.YtgljncfijcamhaaGreatDoor
open Go.ChangeShapes Go.WideShapes Go.ChangeAt Go.RowKit Go.Joins Go.Deep

set_option maxRecDepth 100000 in
theorem ground_fields : ∃ f0 f1 f2 f3, Tryz.prog.underlying 115 = some (.struct #[f0, f1, f2, f3]) ∧ oneCellFields Tryz.prog #[f0, f1, f2, f3] = true ∧ f0.type = 3 ∧ f1.type = 3 ∧ f2.type = 3 ∧ f3.type = 3 := by
  exact ⟨(Tryz.prog.fieldsOf 115)[0]!, (Tryz.prog.fieldsOf 115)[1]!, (Tryz.prog.fieldsOf 115)[2]!, (Tryz.prog.fieldsOf 115)[3]!, by kernel_rfl, by kernel_rfl, by kernel_rfl, by kernel_rfl, by kernel_rfl, by kernel_rfl⟩
set_option maxRecDepth 100000 in
/-- An argument that is a ground. -/
theorem open_ground {H : Type} {enc : TypeId × Value → H} {w : World} {v : Value} {d : DataW H} {ps : List MemPlace} {r : Reach} {b0 : Nat}
    (hv : Value.okWide Tryz.prog w r b0 50 v) (h : DataW.Trod enc Tryz.prog w 0 (fun _ => true) true 50 v d ps) :
    ∃ (A : Option Addr) (n c : Nat) (l : List Gr), v = .slice A n c ∧ Grs w w.heap.size A n c l ∧ (A = none → n = 0 ∧ c = 0) := by
  obtain ⟨f0, f1, f2, f3, hu, ho, t0, t1, t2, t3⟩ := ground_fields
  exact open_gcells Tryz.underlying50 hu ho (by kernel_rfl) t0 t1 t2 t3 Tryz.underlying3 hv h
set_option maxRecDepth 100000 in
theorem tie_fields : ∃ f0 f1, Tryz.prog.underlying 91 = some (.struct #[f0, f1]) ∧ oneCellFields Tryz.prog #[f0, f1] = true ∧ f0.type = 3 ∧ f1.type = 3 := by
  exact ⟨(Tryz.prog.fieldsOf 91)[0]!, (Tryz.prog.fieldsOf 91)[1]!, by kernel_rfl, by kernel_rfl, by kernel_rfl, by kernel_rfl⟩
set_option maxRecDepth 100000 in
/-- An argument that is a list of ties. -/
theorem open_ties {H : Type} {enc : TypeId × Value → H} {w : World} {v : Value} {d : DataW H} {ps : List MemPlace} {r : Reach} {b0 : Nat}
    (hv : Value.okWide Tryz.prog w r b0 27 v) (h : DataW.Trod enc Tryz.prog w 0 (fun _ => true) true 27 v d ps) :
    ∃ (A : Option Addr) (n c : Nat) (l : List (Int × Int)), v = .slice A n c ∧ Pts w w.heap.size A n c l ∧ (A = none → n = 0 ∧ c = 0) := by
  obtain ⟨f0, f1, hu, ho, t0, t1⟩ := tie_fields
  exact open_pcells Tryz.underlying27 hu ho (by kernel_rfl) t0 t1 Tryz.underlying3 hv h
set_option maxRecDepth 100000 in
/-- An argument that is a list of numbers. -/
theorem open_ns {H : Type} {enc : TypeId × Value → H} {w : World} {v : Value} {d : DataW H} {ps : List MemPlace} {r : Reach} {b0 : Nat}
    (hv : Value.okWide Tryz.prog w r b0 22 v) (h : DataW.Trod enc Tryz.prog w 0 (fun _ => true) true 22 v d ps) :
    ∃ (A : Option Addr) (n c : Nat) (l : List Int), v = .slice A n c ∧ Nums w w.heap.size A n c l ∧ (A = none → n = 0 ∧ c = 0) := by
  obtain ⟨A, n, c, rfl⟩ := okWide_slice Tryz.underlying22 hv
  obtain ⟨fuel, hf⟩ := h
  obtain ⟨A', n', c', l, e, h1, h2⟩ := open_nums (u := .slice A n c) Tryz.underlying22 Tryz.underlying3 (by kernel_rfl) (by simpa [Value.cells] using hf)
  exact ⟨A', n', c', l, e, h1, h2⟩

end Go.Proofs.YtgljncfijcamhaaGreatDoor
