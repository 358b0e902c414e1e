/- Chapter 9: arguments, opened: a platform and a time. -/
import Derived.Test.YtgjjjnofdjhikaaOpen9
namespace Go.Proofs.Ytgjjjnofdjhikaa
open Go.ChangeShapes Go.WideShapes Go.ChangeAt Go.RowKit Go.Joins Go.Deep

section
variable {H : Type} {enc : TypeId × Value → H} {w : World}
theorem days_under : Try.prog.underlying 52 = some (.struct (Try.prog.fieldsOf 52)) := by kernel_rfl
theorem days_one : oneCellFields Try.prog (Try.prog.fieldsOf 52) = true := by kernel_rfl
set_option maxRecDepth 100000 in
/-- An argument that is a platform and a time. -/
theorem open_days {v : Value} {d : DataW H} {ps : List MemPlace} {r : Reach} {b0 : Nat}
    (hv : Value.okWide Try.prog w r b0 52 v) (h : DataW.Trod enc Try.prog w 0 (fun _ => true) true 52 v d ps) :
    ∃ (a : ByteArray) (b c : Int), v = .agg #[.string a, .int .i64 b, .int .i64 c] := by
  obtain ⟨cs, rfl, hsz⟩ := okWide_struct days_under hv
  obtain ⟨fuel, hf⟩ := h
  obtain ⟨xs, n, _, hx, _, hlen, hg⟩ := DataW.trod_struct days_under hf
  have h3 : cs.size = 3 := hsz.trans (by kernel_rfl)
  have key : ∀ (j : Nat) (f : Field) (u : Value), (Try.prog.fieldsOf 52)[j]? = some f → cs.toList[j]? = some u → ∃ fuel y, DataW.trod enc Try.prog w 0 (fun _ => true) true fuel f.type [u] = some y := fun j f u hj hu => by
    obtain ⟨o, k⟩ := hone_of days_one j f hj
    have h1 := hg j f hj
    rw [o, k] at h1
    have hjl := (List.getElem?_eq_some_iff.1 hu).1
    rw [show ((Value.agg cs).cells.toList.drop j).take 1 = [u] by
      rw [show (Value.agg cs).cells = cs from rfl, List.drop_eq_getElem_cons hjl]
      simp [(List.getElem?_eq_some_iff.1 hu).2]] at h1
    have hjs : j < xs.length := by rw [hlen]; exact (Array.getElem?_eq_some_iff.1 hj).1
    exact ⟨n, xs[j], by rw [h1, List.getElem?_eq_getElem hjs]⟩
  obtain ⟨a, b, c, e⟩ : ∃ (a : ByteArray) (b c : Int), cs.toList = [.string a, .int .i64 b, .int .i64 c] := by
    generalize hcs : cs.toList = cl at key
    have hl : cl.length = 3 := by rw [← hcs]; simpa using h3
    match cl, hl with
    | [u0, u1, u2], _ =>
      obtain ⟨k0, y0, e0⟩ := key 0 ((Try.prog.fieldsOf 52)[0]!) u0 (by kernel_rfl) rfl
      obtain ⟨k1, y1, e1⟩ := key 1 ((Try.prog.fieldsOf 52)[1]!) u1 (by kernel_rfl) rfl
      obtain ⟨k2, y2, e2⟩ := key 2 ((Try.prog.fieldsOf 52)[2]!) u2 (by kernel_rfl) rfl
      rw [show ((Try.prog.fieldsOf 52)[0]!).type = 9 by kernel_rfl] at e0
      rw [show ((Try.prog.fieldsOf 52)[1]!).type = 3 by kernel_rfl] at e1
      rw [show ((Try.prog.fieldsOf 52)[2]!).type = 3 by kernel_rfl] at e2
      obtain ⟨z0, rfl⟩ := str_of e0
      obtain ⟨z1, rfl⟩ := int_of e1
      obtain ⟨z2, rfl⟩ := int_of e2
      exact ⟨z0, z1, z2, rfl⟩
  refine ⟨a, b, c, ?_⟩
  congr 1
  exact Array.ext' e
end

end Go.Proofs.Ytgjjjnofdjhikaa
