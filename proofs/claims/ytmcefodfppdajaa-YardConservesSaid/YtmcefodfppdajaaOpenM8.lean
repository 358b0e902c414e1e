/- Chapter 8: arguments, opened: movements. -/
import Derived.Test.YtmcefodfppdajaaOpen8
import Derived.Test.YtmcefodfppdajaaMov8
namespace Go.Proofs.Ytmcefodfppdajaa
open Go.ChangeShapes Go.WideShapes Go.ChangeAt Go.RowKit Go.Joins Go.Deep

section
variable {H : Type} {enc : TypeId × Value → H} {w : World}
set_option maxRecDepth 100000 in
theorem mo_dec {fs : Array Field} (hfs : fs = Try.prog.fieldsOf 41) : ∀ cs' : List Value, cs'.length = 6 → (∀ (j : Nat) (f : Field) (u : Value), fs[j]? = some f → cs'[j]? = some u → ∃ (k : Nat) (y : DataW H × List MemPlace), DataW.trod enc Try.prog w 0 (fun _ => true) true k f.type [u] = some y) → ∃ x : Mo, cs' = Mo.cs x := by
  intro cs' hl hd
  match cs', hl with
  | [u0, u1, u2, u3, u4, u5], _ =>
    obtain ⟨k0, y0, e0⟩ := hd 0 ((Try.prog.fieldsOf 41)[0]!) u0 (by rw [hfs]; kernel_rfl) rfl
    obtain ⟨k1, y1, e1⟩ := hd 1 ((Try.prog.fieldsOf 41)[1]!) u1 (by rw [hfs]; kernel_rfl) rfl
    obtain ⟨k2, y2, e2⟩ := hd 2 ((Try.prog.fieldsOf 41)[2]!) u2 (by rw [hfs]; kernel_rfl) rfl
    obtain ⟨k3, y3, e3⟩ := hd 3 ((Try.prog.fieldsOf 41)[3]!) u3 (by rw [hfs]; kernel_rfl) rfl
    obtain ⟨k4, y4, e4⟩ := hd 4 ((Try.prog.fieldsOf 41)[4]!) u4 (by rw [hfs]; kernel_rfl) rfl
    obtain ⟨k5, y5, e5⟩ := hd 5 ((Try.prog.fieldsOf 41)[5]!) u5 (by rw [hfs]; kernel_rfl) rfl
    rw [show ((Try.prog.fieldsOf 41)[0]!).type = 9 by kernel_rfl] at e0
    rw [show ((Try.prog.fieldsOf 41)[1]!).type = 3 by kernel_rfl] at e1
    rw [show ((Try.prog.fieldsOf 41)[2]!).type = 3 by kernel_rfl] at e2
    rw [show ((Try.prog.fieldsOf 41)[3]!).type = 3 by kernel_rfl] at e3
    rw [show ((Try.prog.fieldsOf 41)[4]!).type = 3 by kernel_rfl] at e4
    rw [show ((Try.prog.fieldsOf 41)[5]!).type = 3 by kernel_rfl] at e5
    obtain ⟨z0, rfl⟩ := str_of e0
    obtain ⟨z1, rfl⟩ := int_of e1
    obtain ⟨z2, rfl⟩ := int_of e2
    obtain ⟨z3, rfl⟩ := int_of e3
    obtain ⟨z4, rfl⟩ := int_of e4
    obtain ⟨z5, rfl⟩ := int_of e5
    exact ⟨⟨z0, z1, z2, z3, z4, z5⟩, rfl⟩
set_option maxRecDepth 100000 in
/-- An argument that is a list of movements. -/
theorem open_movements {v : Value} {d : DataW H} {ps : List MemPlace} {r : Reach} {b0 : Nat}
    (hv : Value.okWide Try.prog w r b0 51 v) (h : DataW.Trod enc Try.prog w 0 (fun _ => true) true 51 v d ps) :
    ∃ (A : Option Addr) (n c : Nat) (l : List Mo), v = .slice A n c ∧ Rws Mo.cs 6 w w.heap.size A n c l := by
  obtain ⟨fs, hu, ho⟩ : ∃ fs, Try.prog.underlying 41 = some (.struct fs) ∧ oneCellFields Try.prog fs = true ∧ fs = Try.prog.fieldsOf 41 := ⟨Try.prog.fieldsOf 41, by kernel_rfl, by kernel_rfl, rfl⟩
  obtain ⟨ho, hfs⟩ := ho
  exact open_rows Mo.wide (by omega) Try.underlying51 hu ho (by kernel_rfl) (mo_dec hfs) hv h
set_option maxRecDepth 100000 in
/-- An argument that is a movement. -/
theorem open_movement {v : Value} {d : DataW H} {ps : List MemPlace} {r : Reach} {b0 : Nat}
    (hv : Value.okWide Try.prog w r b0 41 v) (h : DataW.Trod enc Try.prog w 0 (fun _ => true) true 41 v d ps) : ∃ x : Mo, v = .agg #[.string x.p, .int .i64 x.f, .int .i64 x.t, .int .i64 x.b, .int .i64 x.a, .int .i64 x.n] := by
  obtain ⟨fs, hu, ho⟩ : ∃ fs, Try.prog.underlying 41 = some (.struct fs) ∧ oneCellFields Try.prog fs = true ∧ fs = Try.prog.fieldsOf 41 := ⟨Try.prog.fieldsOf 41, by kernel_rfl, by kernel_rfl, rfl⟩
  obtain ⟨ho, hfs⟩ := ho
  obtain ⟨cs, rfl, hsz⟩ := okWide_struct hu hv
  obtain ⟨fuel, hf⟩ := h
  obtain ⟨xs, n, _, hx, _, hlen, hg⟩ := DataW.trod_struct hu hf
  have h6 : cs.size = 6 := hsz.trans (by kernel_rfl)
  obtain ⟨x, e⟩ := mo_dec (enc := enc) (w := w) hfs cs.toList (by simpa using h6) (fun j f u hj hu => by
    obtain ⟨o, k⟩ := hone_of ho j f hj
    have h1 := hg j f hj
    rw [o, k] at h1
    have hjl := (List.getElem?_eq_some_iff.1 hu).1
    rw [show ((Value.agg cs).cells.toList.drop j).take 1 = [u] by
      rw [show (Value.agg cs).cells = cs from rfl, List.drop_eq_getElem_cons hjl]
      simp [(List.getElem?_eq_some_iff.1 hu).2]] at h1
    have hjs : j < xs.length := by rw [hlen]; exact (Array.getElem?_eq_some_iff.1 hj).1
    exact ⟨n, xs[j], by rw [h1, List.getElem?_eq_getElem hjs]⟩)
  refine ⟨x, ?_⟩
  congr 1
  exact Array.ext' e
end

end Go.Proofs.Ytmcefodfppdajaa
