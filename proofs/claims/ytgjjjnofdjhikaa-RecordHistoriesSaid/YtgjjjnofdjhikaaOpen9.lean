/- Chapter 9: arguments, opened: terms, charges, moves, events. -/
import Derived.Test.YtgjjjnofdjhikaaInt9
import Derived.Test.YtgjjjnofdjhikaaKinds9
namespace Go.Proofs.Ytgjjjnofdjhikaa
open Go.ChangeShapes Go.WideShapes Go.ChangeAt Go.RowKit Go.Joins Go.Deep

section
variable {H : Type} {enc : TypeId × Value → H} {w : World}
theorem int_of {u : Value} {fuel : Nat} {y : DataW H × List MemPlace} (h : DataW.trod enc Try.prog w 0 (fun _ => true) true fuel 3 [u] = some y) : ∃ z : Int, u = .int .i64 z := by
  obtain ⟨z, e, _, _⟩ := DataW.trod_int Try.underlying3 h
  exact ⟨z, by simpa using e⟩
theorem str_of {u : Value} {fuel : Nat} {y : DataW H × List MemPlace} (h : DataW.trod enc Try.prog w 0 (fun _ => true) true fuel 9 [u] = some y) : ∃ z : ByteArray, u = .string z := by
  obtain ⟨z, e, _, _⟩ := DataW.trod_string Try.underlying9 h
  exact ⟨z, by simpa using e⟩
theorem bool_of {u : Value} {fuel : Nat} {y : DataW H × List MemPlace} (h : DataW.trod enc Try.prog w 0 (fun _ => true) true fuel 4 [u] = some y) : ∃ z : Bool, u = .bool z := by
  obtain ⟨z, e, _⟩ := DataW.trod_bool Try.underlying4 h
  exact ⟨z, by simpa using e⟩
set_option maxRecDepth 100000 in
/-- An argument that is a list of charges. -/
theorem open_charges {v : Value} {d : DataW H} {ps : List MemPlace} {r : Reach} {b0 : Nat}
    (hv : Value.okWide Try.prog w r b0 103 v) (h : DataW.Trod enc Try.prog w 0 (fun _ => true) true 103 v d ps) :
    ∃ (A : Option Addr) (n c : Nat) (l : List Q4), v = .slice A n c ∧ Rws Q4.cs 4 w w.heap.size A n c l := by
  obtain ⟨fs, hu, ho⟩ : ∃ fs, Try.prog.underlying 122 = some (.struct fs) ∧ oneCellFields Try.prog fs = true ∧ fs = Try.prog.fieldsOf 122 := ⟨Try.prog.fieldsOf 122, by kernel_rfl, by kernel_rfl, rfl⟩
  obtain ⟨ho, hfs⟩ := ho
  refine open_rows Q4.wide (by omega) Try.underlying103 hu ho (by kernel_rfl) (fun cs' hl hd => ?_) hv h
  match cs', hl with
  | [u0, u1, u2, u3], _ =>
    obtain ⟨k0, y0, e0⟩ := hd 0 ((Try.prog.fieldsOf 122)[0]!) u0 (by rw [hfs]; kernel_rfl) rfl
    obtain ⟨k1, y1, e1⟩ := hd 1 ((Try.prog.fieldsOf 122)[1]!) u1 (by rw [hfs]; kernel_rfl) rfl
    obtain ⟨k2, y2, e2⟩ := hd 2 ((Try.prog.fieldsOf 122)[2]!) u2 (by rw [hfs]; kernel_rfl) rfl
    obtain ⟨k3, y3, e3⟩ := hd 3 ((Try.prog.fieldsOf 122)[3]!) u3 (by rw [hfs]; kernel_rfl) rfl
    rw [show ((Try.prog.fieldsOf 122)[0]!).type = 9 by kernel_rfl] at e0
    rw [show ((Try.prog.fieldsOf 122)[1]!).type = 3 by kernel_rfl] at e1
    rw [show ((Try.prog.fieldsOf 122)[2]!).type = 3 by kernel_rfl] at e2
    rw [show ((Try.prog.fieldsOf 122)[3]!).type = 3 by kernel_rfl] at e3
    obtain ⟨z0, rfl⟩ := str_of e0
    obtain ⟨z1, rfl⟩ := int_of e1
    obtain ⟨z2, rfl⟩ := int_of e2
    obtain ⟨z3, rfl⟩ := int_of e3
    exact ⟨⟨z0, z1, z2, z3⟩, rfl⟩
set_option maxRecDepth 100000 in
/-- An argument that is a list of terms. -/
theorem open_terms {v : Value} {d : DataW H} {ps : List MemPlace} {r : Reach} {b0 : Nat}
    (hv : Value.okWide Try.prog w r b0 65 v) (h : DataW.Trod enc Try.prog w 0 (fun _ => true) true 65 v d ps) :
    ∃ (A : Option Addr) (n c : Nat) (l : List Q4), v = .slice A n c ∧ Rws Q4.cs 4 w w.heap.size A n c l := by
  obtain ⟨fs, hu, ho⟩ : ∃ fs, Try.prog.underlying 64 = some (.struct fs) ∧ oneCellFields Try.prog fs = true ∧ fs = Try.prog.fieldsOf 64 := ⟨Try.prog.fieldsOf 64, by kernel_rfl, by kernel_rfl, rfl⟩
  obtain ⟨ho, hfs⟩ := ho
  refine open_rows Q4.wide (by omega) Try.underlying65 hu ho (by kernel_rfl) (fun cs' hl hd => ?_) hv h
  match cs', hl with
  | [u0, u1, u2, u3], _ =>
    obtain ⟨k0, y0, e0⟩ := hd 0 ((Try.prog.fieldsOf 64)[0]!) u0 (by rw [hfs]; kernel_rfl) rfl
    obtain ⟨k1, y1, e1⟩ := hd 1 ((Try.prog.fieldsOf 64)[1]!) u1 (by rw [hfs]; kernel_rfl) rfl
    obtain ⟨k2, y2, e2⟩ := hd 2 ((Try.prog.fieldsOf 64)[2]!) u2 (by rw [hfs]; kernel_rfl) rfl
    obtain ⟨k3, y3, e3⟩ := hd 3 ((Try.prog.fieldsOf 64)[3]!) u3 (by rw [hfs]; kernel_rfl) rfl
    rw [show ((Try.prog.fieldsOf 64)[0]!).type = 9 by kernel_rfl] at e0
    rw [show ((Try.prog.fieldsOf 64)[1]!).type = 3 by kernel_rfl] at e1
    rw [show ((Try.prog.fieldsOf 64)[2]!).type = 3 by kernel_rfl] at e2
    rw [show ((Try.prog.fieldsOf 64)[3]!).type = 3 by kernel_rfl] at e3
    obtain ⟨z0, rfl⟩ := str_of e0
    obtain ⟨z1, rfl⟩ := int_of e1
    obtain ⟨z2, rfl⟩ := int_of e2
    obtain ⟨z3, rfl⟩ := int_of e3
    exact ⟨⟨z0, z1, z2, z3⟩, rfl⟩
set_option maxRecDepth 100000 in
/-- An argument that is a list of moves. -/
theorem open_moves {v : Value} {d : DataW H} {ps : List MemPlace} {r : Reach} {b0 : Nat}
    (hv : Value.okWide Try.prog w r b0 69 v) (h : DataW.Trod enc Try.prog w 0 (fun _ => true) true 69 v d ps) :
    ∃ (A : Option Addr) (n c : Nat) (l : List Mv), v = .slice A n c ∧ Rws Mv.cs 4 w w.heap.size A n c l := by
  obtain ⟨fs, hu, ho⟩ : ∃ fs, Try.prog.underlying 68 = some (.struct fs) ∧ oneCellFields Try.prog fs = true ∧ fs = Try.prog.fieldsOf 68 := ⟨Try.prog.fieldsOf 68, by kernel_rfl, by kernel_rfl, rfl⟩
  obtain ⟨ho, hfs⟩ := ho
  refine open_rows Mv.wide (by omega) Try.underlying69 hu ho (by kernel_rfl) (fun cs' hl hd => ?_) hv h
  match cs', hl with
  | [u0, u1, u2, u3], _ =>
    obtain ⟨k0, y0, e0⟩ := hd 0 ((Try.prog.fieldsOf 68)[0]!) u0 (by rw [hfs]; kernel_rfl) rfl
    obtain ⟨k1, y1, e1⟩ := hd 1 ((Try.prog.fieldsOf 68)[1]!) u1 (by rw [hfs]; kernel_rfl) rfl
    obtain ⟨k2, y2, e2⟩ := hd 2 ((Try.prog.fieldsOf 68)[2]!) u2 (by rw [hfs]; kernel_rfl) rfl
    obtain ⟨k3, y3, e3⟩ := hd 3 ((Try.prog.fieldsOf 68)[3]!) u3 (by rw [hfs]; kernel_rfl) rfl
    rw [show ((Try.prog.fieldsOf 68)[0]!).type = 3 by kernel_rfl] at e0
    rw [show ((Try.prog.fieldsOf 68)[1]!).type = 3 by kernel_rfl] at e1
    rw [show ((Try.prog.fieldsOf 68)[2]!).type = 9 by kernel_rfl] at e2
    rw [show ((Try.prog.fieldsOf 68)[3]!).type = 3 by kernel_rfl] at e3
    obtain ⟨z0, rfl⟩ := int_of e0
    obtain ⟨z1, rfl⟩ := int_of e1
    obtain ⟨z2, rfl⟩ := str_of e2
    obtain ⟨z3, rfl⟩ := int_of e3
    exact ⟨⟨z0, z1, z2, z3⟩, rfl⟩
set_option maxRecDepth 100000 in
/-- An argument that is a record. -/
theorem open_events {v : Value} {d : DataW H} {ps : List MemPlace} {r : Reach} {b0 : Nat}
    (hv : Value.okWide Try.prog w r b0 22 v) (h : DataW.Trod enc Try.prog w 0 (fun _ => true) true 22 v d ps) :
    ∃ (A : Option Addr) (n c : Nat) (l : List Ev), v = .slice A n c ∧ Rws Ev.cs 6 w w.heap.size A n c l := by
  obtain ⟨fs, hu, ho⟩ : ∃ fs, Try.prog.underlying 24 = some (.struct fs) ∧ oneCellFields Try.prog fs = true ∧ fs = Try.prog.fieldsOf 24 := ⟨Try.prog.fieldsOf 24, by kernel_rfl, by kernel_rfl, rfl⟩
  obtain ⟨ho, hfs⟩ := ho
  refine open_rows Ev.wide (by omega) Try.underlying22 hu ho (by kernel_rfl) (fun cs' hl hd => ?_) hv h
  match cs', hl with
  | [u0, u1, u2, u3, u4, u5], _ =>
    obtain ⟨k0, y0, e0⟩ := hd 0 ((Try.prog.fieldsOf 24)[0]!) u0 (by rw [hfs]; kernel_rfl) rfl
    obtain ⟨k1, y1, e1⟩ := hd 1 ((Try.prog.fieldsOf 24)[1]!) u1 (by rw [hfs]; kernel_rfl) rfl
    obtain ⟨k2, y2, e2⟩ := hd 2 ((Try.prog.fieldsOf 24)[2]!) u2 (by rw [hfs]; kernel_rfl) rfl
    obtain ⟨k3, y3, e3⟩ := hd 3 ((Try.prog.fieldsOf 24)[3]!) u3 (by rw [hfs]; kernel_rfl) rfl
    obtain ⟨k4, y4, e4⟩ := hd 4 ((Try.prog.fieldsOf 24)[4]!) u4 (by rw [hfs]; kernel_rfl) rfl
    obtain ⟨k5, y5, e5⟩ := hd 5 ((Try.prog.fieldsOf 24)[5]!) u5 (by rw [hfs]; kernel_rfl) rfl
    rw [show ((Try.prog.fieldsOf 24)[0]!).type = 3 by kernel_rfl] at e0
    rw [show ((Try.prog.fieldsOf 24)[1]!).type = 3 by kernel_rfl] at e1
    rw [show ((Try.prog.fieldsOf 24)[2]!).type = 9 by kernel_rfl] at e2
    rw [show ((Try.prog.fieldsOf 24)[3]!).type = 3 by kernel_rfl] at e3
    rw [show ((Try.prog.fieldsOf 24)[4]!).type = 4 by kernel_rfl] at e4
    rw [show ((Try.prog.fieldsOf 24)[5]!).type = 4 by kernel_rfl] at e5
    obtain ⟨z0, rfl⟩ := int_of e0
    obtain ⟨z1, rfl⟩ := int_of e1
    obtain ⟨z2, rfl⟩ := str_of e2
    obtain ⟨z3, rfl⟩ := int_of e3
    obtain ⟨z4, rfl⟩ := bool_of e4
    obtain ⟨z5, rfl⟩ := bool_of e5
    exact ⟨⟨z0, z1, z2, z3, z4, z5⟩, rfl⟩
end

end Go.Proofs.Ytgjjjnofdjhikaa
