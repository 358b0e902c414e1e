/- Chapter 9: arguments, opened: a record with its events' bounds; an event. -/
import Derived.Test.YtgjjjnofdjhikaaOpen9
import Derived.Test.YtgjjjnofdjhikaaCheckRec9
namespace Go.Proofs.Ytgjjjnofdjhikaa
open Go.ChangeShapes Go.WideShapes Go.ChangeAt Go.RowKit Go.Joins Go.Deep

section
variable {H : Type} {enc : TypeId × Value → H} {w : World}
theorem int_ok {u : Value} {fuel : Nat} {y : DataW H × List MemPlace} (h : DataW.trod enc Try.prog w 0 (fun _ => true) true fuel 3 [u] = some y) : ∃ z : Int, u = .int .i64 z ∧ -9223372036854775808 ≤ z ∧ z ≤ 9223372036854775807 := by
  obtain ⟨z, e, _, hwf⟩ := DataW.trod_int Try.underlying3 h
  simp only [Lit.wf, Bool.and_eq_true, decide_eq_true_eq] at hwf
  exact ⟨z, by simpa using e, hwf.1, hwf.2⟩
set_option maxRecDepth 100000 in
theorem ev_dec (cs' : List Value) (hl : cs'.length = 6) (hd : ∀ (j : Nat) (f : Field) (u : Value), (Try.prog.fieldsOf 24)[j]? = some f → cs'[j]? = some u → ∃ fuel y, DataW.trod enc Try.prog w 0 (fun _ => true) true fuel f.type [u] = some y) : ∃ x : {x : Ev // evOk x}, cs' = Ev.cs x.1 := by
  match cs', hl with
  | [u0, u1, u2, u3, u4, u5], _ =>
    obtain ⟨k0, y0, e0⟩ := hd 0 ((Try.prog.fieldsOf 24)[0]!) u0 (by kernel_rfl) rfl
    obtain ⟨k1, y1, e1⟩ := hd 1 ((Try.prog.fieldsOf 24)[1]!) u1 (by kernel_rfl) rfl
    obtain ⟨k2, y2, e2⟩ := hd 2 ((Try.prog.fieldsOf 24)[2]!) u2 (by kernel_rfl) rfl
    obtain ⟨k3, y3, e3⟩ := hd 3 ((Try.prog.fieldsOf 24)[3]!) u3 (by kernel_rfl) rfl
    obtain ⟨k4, y4, e4⟩ := hd 4 ((Try.prog.fieldsOf 24)[4]!) u4 (by kernel_rfl) rfl
    obtain ⟨k5, y5, e5⟩ := hd 5 ((Try.prog.fieldsOf 24)[5]!) u5 (by kernel_rfl) rfl
    rw [show ((Try.prog.fieldsOf 24)[0]!).type = 3 by kernel_rfl] at e0
    rw [show ((Try.prog.fieldsOf 24)[1]!).type = 3 by kernel_rfl] at e1
    rw [show ((Try.prog.fieldsOf 24)[2]!).type = 9 by kernel_rfl] at e2
    rw [show ((Try.prog.fieldsOf 24)[3]!).type = 3 by kernel_rfl] at e3
    rw [show ((Try.prog.fieldsOf 24)[4]!).type = 4 by kernel_rfl] at e4
    rw [show ((Try.prog.fieldsOf 24)[5]!).type = 4 by kernel_rfl] at e5
    obtain ⟨z0, rfl⟩ := int_of e0
    obtain ⟨z1, rfl⟩ := int_of e1
    obtain ⟨z2, rfl⟩ := str_of e2
    obtain ⟨z3, rfl, h3⟩ := int_ok e3
    obtain ⟨z4, rfl⟩ := bool_of e4
    obtain ⟨z5, rfl⟩ := bool_of e5
    exact ⟨⟨⟨z0, z1, z2, z3, z4, z5⟩, h3⟩, rfl⟩
theorem ev_under : Try.prog.underlying 24 = some (.struct (Try.prog.fieldsOf 24)) := by kernel_rfl
theorem ev_one : oneCellFields Try.prog (Try.prog.fieldsOf 24) = true := by kernel_rfl
set_option maxRecDepth 100000 in
/-- An argument that is a record: its events, their numbers in bounds. -/
theorem open_record {v : Value} {d : DataW H} {ps : List MemPlace} {r : Reach} {b0 : Nat}
    (hv : Value.okWide Try.prog w r b0 22 v) (h : DataW.Trod enc Try.prog w 0 (fun _ => true) true 22 v d ps) :
    ∃ (A : Option Addr) (n c : Nat) (l : List Ev), v = .slice A n c ∧ Rws Ev.cs 6 w w.heap.size A n c l ∧ ∀ x ∈ l, evOk x := by
  obtain ⟨A, n, c, l, rfl, hr⟩ := open_rows (g := fun x : {x : Ev // evOk x} => Ev.cs x.1) (fun x => Ev.wide x.1) (by omega) Try.underlying22 ev_under ev_one (by kernel_rfl) ev_dec hv h
  refine ⟨A, n, c, l.map Subtype.val, rfl, ⟨?_, by rw [List.length_map]; exact hr.len, hr.nil⟩, fun x hx => ?_⟩
  · rw [List.flatMap_map]; exact hr.sl
  · obtain ⟨y, -, rfl⟩ := List.mem_map.1 hx
    exact y.2
set_option maxRecDepth 100000 in
/-- An argument that is an event. -/
theorem open_event {v : Value} {d : DataW H} {ps : List MemPlace} {r : Reach} {b0 : Nat}
    (hv : Value.okWide Try.prog w r b0 24 v) (h : DataW.Trod enc Try.prog w 0 (fun _ => true) true 24 v d ps) :
    ∃ x : Ev, v = .agg #[.int .i64 x.d, .int .i64 x.k, .string x.p, .int .i64 x.n, .bool x.ps, .bool x.gr] ∧ evOk x := by
  obtain ⟨cs, rfl, hsz⟩ := okWide_struct ev_under hv
  obtain ⟨fuel, hf⟩ := h
  obtain ⟨xs, n, _, hx, _, hlen, hg⟩ := DataW.trod_struct ev_under hf
  have h6 : cs.size = 6 := hsz.trans (by kernel_rfl)
  obtain ⟨⟨x, hxo⟩, e⟩ := ev_dec (enc := enc) (w := w) cs.toList (by simpa using h6) (fun j f u hj hu => by
    obtain ⟨o, k⟩ := hone_of ev_one j f hj
    have h1 := hg j f hj
    rw [o, k] at h1
    have hjl := (List.getElem?_eq_some_iff.1 hu).1
    rw [show ((Value.agg cs).cells.toList.drop j).take 1 = [u] by
      rw [show (Value.agg cs).cells = cs from rfl, List.drop_eq_getElem_cons hjl]
      simp [(List.getElem?_eq_some_iff.1 hu).2]] at h1
    have hjs : j < xs.length := by rw [hlen]; exact (Array.getElem?_eq_some_iff.1 hj).1
    exact ⟨n, xs[j], by rw [h1, List.getElem?_eq_getElem hjs]⟩)
  refine ⟨x, ?_, hxo⟩
  congr 1
  exact Array.ext' e
end

end Go.Proofs.Ytgjjjnofdjhikaa
