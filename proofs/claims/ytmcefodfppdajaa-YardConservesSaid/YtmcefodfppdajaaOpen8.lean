/- Chapter 8: arguments, opened: stocks, texts, places and states, movements. -/
import Derived.Test.YtmcefodfppdajaaInt9
import Derived.Test.YtmcefodfppdajaaKinds9
import Derived.Test.YtmcefodfppdajaaShelf8
import Derived.OpenShut
namespace Go.Proofs.Ytmcefodfppdajaa
open Go.ChangeShapes Go.WideShapes Go.ChangeAt Go.RowKit Go.Joins Go.Deep

section
variable {H : Type} {enc : TypeId × Value → H} {w : World}
theorem int_of {u : Value} {fuel : Nat} {y : DataW H × List MemPlace} (h : DataW.trod enc Try.prog w 0 (fun _ => true) true fuel 3 [u] = some y) : ∃ z : Int, u = .int .i64 z := by
  obtain ⟨z, e, _, _⟩ := DataW.trod_int Try.underlying3 h
  exact ⟨z, by simpa using e⟩
theorem int_of_wf {u : Value} {fuel : Nat} {y : DataW H × List MemPlace} (h : DataW.trod enc Try.prog w 0 (fun _ => true) true fuel 3 [u] = some y) : ∃ z : Int, u = .int .i64 z ∧ i64B z := by
  obtain ⟨z, e, _, hw⟩ := DataW.trod_int Try.underlying3 h
  exact ⟨z, by simpa using e, bounds_i64 hw⟩
theorem str_of {u : Value} {fuel : Nat} {y : DataW H × List MemPlace} (h : DataW.trod enc Try.prog w 0 (fun _ => true) true fuel 9 [u] = some y) : ∃ z : ByteArray, u = .string z := by
  obtain ⟨z, e, _, _⟩ := DataW.trod_string Try.underlying9 h
  exact ⟨z, by simpa using e⟩
set_option maxRecDepth 100000 in
/-- An argument that is a stock. -/
theorem open_stocks {v : Value} {d : DataW H} {ps : List MemPlace} {r : Reach} {b0 : Nat}
    (hv : Value.okWide Try.prog w r b0 22 v) (h : DataW.Trod enc Try.prog w 0 (fun _ => true) true 22 v d ps) :
    ∃ (A : Option Addr) (n c : Nat) (l : List Q4), v = .slice A n c ∧ Rws Q4.cs 4 w w.heap.size A n c l := by
  obtain ⟨fs, hu, ho⟩ : ∃ fs, Try.prog.underlying 103 = some (.struct fs) ∧ oneCellFields Try.prog fs = true ∧ fs = Try.prog.fieldsOf 103 := ⟨Try.prog.fieldsOf 103, by kernel_rfl, by kernel_rfl, rfl⟩
  obtain ⟨ho, hfs⟩ := ho
  refine open_rows Q4.wide (by omega) Try.underlying22 hu ho (by kernel_rfl) (fun cs' hl hd => ?_) hv h
  match cs', hl with
  | [u0, u1, u2, u3], _ =>
    obtain ⟨k0, y0, e0⟩ := hd 0 ((Try.prog.fieldsOf 103)[0]!) u0 (by rw [hfs]; kernel_rfl) rfl
    obtain ⟨k1, y1, e1⟩ := hd 1 ((Try.prog.fieldsOf 103)[1]!) u1 (by rw [hfs]; kernel_rfl) rfl
    obtain ⟨k2, y2, e2⟩ := hd 2 ((Try.prog.fieldsOf 103)[2]!) u2 (by rw [hfs]; kernel_rfl) rfl
    obtain ⟨k3, y3, e3⟩ := hd 3 ((Try.prog.fieldsOf 103)[3]!) u3 (by rw [hfs]; kernel_rfl) rfl
    rw [show ((Try.prog.fieldsOf 103)[0]!).type = 9 by kernel_rfl] at e0
    rw [show ((Try.prog.fieldsOf 103)[1]!).type = 3 by kernel_rfl] at e1
    rw [show ((Try.prog.fieldsOf 103)[2]!).type = 3 by kernel_rfl] at e2
    rw [show ((Try.prog.fieldsOf 103)[3]!).type = 3 by kernel_rfl] at e3
    obtain ⟨z0, rfl⟩ := str_of e0
    obtain ⟨z1, rfl⟩ := int_of e1
    obtain ⟨z2, rfl⟩ := int_of e2
    obtain ⟨z3, rfl⟩ := int_of e3
    exact ⟨⟨z0, z1, z2, z3⟩, rfl⟩
set_option maxRecDepth 100000 in
/-- An argument that is a text. -/
theorem open_str {v : Value} {d : DataW H} {ps : List MemPlace} {r : Reach} {b0 : Nat}
    (hv : Value.okWide Try.prog w r b0 9 v) (h : DataW.Trod enc Try.prog w 0 (fun _ => true) true 9 v d ps) : ∃ z : ByteArray, v = .string z := by
  obtain ⟨s, e, -⟩ := Go.ChangeMaps.open_string Try.underlying9 hv h
  exact ⟨s, e⟩
theorem okWide_array {P : Program} {t e : TypeId} {n : Nat} {r : Reach} {b0 : Nat} {v : Value} (ht : P.underlying t = some (.array n e)) (h : Value.okWide P w r b0 t v) : ∃ cs, v = .agg cs ∧ cs.size = P.cellsOf t := by
  simp only [Value.okWide, ht] at h
  obtain ⟨cs, h1, h2, _⟩ := h
  exact ⟨cs, h1, h2⟩
theorem array2 {T : Array Value} (h : T.size = 2) : ∃ v0 v1 : Value, T = #[v0, v1] := by
  obtain ⟨l⟩ := T
  match l, h with
  | [v0, v1], _ => exact ⟨v0, v1, rfl⟩
theorem array6 {T : Array Value} (h : T.size = 6) : ∃ v0 v1 v2 v3 v4 v5 : Value, T = #[v0, v1, v2, v3, v4, v5] := by
  obtain ⟨l⟩ := T
  match l, h with
  | [v0, v1, v2, v3, v4, v5], _ => exact ⟨v0, v1, v2, v3, v4, v5, rfl⟩
set_option maxRecDepth 100000 in
/-- An argument that is a pair of numbers. -/
theorem open_pair {v : Value} {d : DataW H} {ps : List MemPlace} {r : Reach} {b0 : Nat}
    (hv : Value.okWide Try.prog w r b0 23 v) (h : DataW.Trod enc Try.prog w 0 (fun _ => true) true 23 v d ps) : ∃ x y : Int, v = .agg #[.int .i64 x, .int .i64 y] ∧ i64B x ∧ i64B y := by
  have hC : Try.prog.cellsOf 23 = 2 := by kernel_rfl
  have hI : Try.prog.cellsOf 3 = 1 := by kernel_rfl
  obtain ⟨cs, rfl, hsz⟩ := okWide_array Try.underlying23 hv
  obtain ⟨c0, c1, rfl⟩ := array2 (hsz.trans hC)
  obtain ⟨fuel, hf⟩ := h
  obtain ⟨xs, m, -, -, -, hl, hg⟩ := DataW.trod_array Try.underlying23 hf
  have g0 := hg 0 (by omega)
  have g1 := hg 1 (by omega)
  rw [hI] at g0 g1
  rw [List.getElem?_eq_getElem (by omega)] at g0 g1
  obtain ⟨x, rfl, hx⟩ := int_of_wf (u := c0) (by simpa [Value.cells] using g0)
  obtain ⟨y, rfl, hy⟩ := int_of_wf (u := c1) (by simpa [Value.cells] using g1)
  exact ⟨x, y, rfl, hx, hy⟩
end

end Go.Proofs.Ytmcefodfppdajaa
