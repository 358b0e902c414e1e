/- Chapter 6: more arguments, opened: a ground with a jack. -/
import Derived.Test.YtgljncfijcamhaaGreatDoorLaidB6
namespace Go.Proofs.YtgljncfijcamhaaGreatDoor
open Go.ChangeShapes Go.WideShapes Go.ChangeAt Go.RowKit Go.Joins Go.Deep

set_option maxRecDepth 100000 in
/-- An argument that is a ground with a jack: the jack's numbers lie beside the slice. -/
theorem open_feet {H : Type} {enc : TypeId × Value → H} {w : World} {v : Value} {d : DataW H} {ps : List MemPlace} {r : Reach} {b0 : Nat}
    (hv : Value.okWide Tryz.prog w r b0 54 v) (h : DataW.Trod enc Tryz.prog w 0 (fun _ => true) true 54 v d ps) :
    ∃ (A : Option Addr) (n c : Nat) (l : List Gr) (lo hi so : Int), v = .agg #[.slice A n c, .int .i64 lo, .int .i64 hi, .int .i64 so] ∧ Grs w w.heap.size A n c l ∧ (A = none → n = 0 ∧ c = 0) := by
  obtain ⟨f0, f1, hu, e0, o0, e1, o1⟩ : ∃ f0 f1, Tryz.prog.underlying 54 = some (.struct #[f0, f1]) ∧ f0.type = 50 ∧ f0.offset = 0 ∧ f1.type = 52 ∧ f1.offset = 1 :=
    ⟨(Tryz.prog.fieldsOf 54)[0]!, (Tryz.prog.fieldsOf 54)[1]!, by kernel_rfl, by kernel_rfl, by kernel_rfl, by kernel_rfl, by kernel_rfl⟩
  obtain ⟨j0, j1, j2, hj, q0, r0, q1, r1, q2, r2⟩ : ∃ j0 j1 j2, Tryz.prog.underlying 52 = some (.struct #[j0, j1, j2]) ∧ j0.type = 3 ∧ j0.offset = 0 ∧ j1.type = 3 ∧ j1.offset = 1 ∧ j2.type = 3 ∧ j2.offset = 2 :=
    ⟨(Tryz.prog.fieldsOf 52)[0]!, (Tryz.prog.fieldsOf 52)[1]!, (Tryz.prog.fieldsOf 52)[2]!, by kernel_rfl, by kernel_rfl, by kernel_rfl, by kernel_rfl, by kernel_rfl, by kernel_rfl, by kernel_rfl⟩
  have c0 : Tryz.prog.cellsOf 54 = 4 := by kernel_rfl
  have c1 : Tryz.prog.cellsOf 50 = 1 := by kernel_rfl
  have c2 : Tryz.prog.cellsOf 52 = 3 := by kernel_rfl
  have c3 : Tryz.prog.cellsOf 3 = 1 := by kernel_rfl
  obtain ⟨cs, rfl, hsz⟩ := okWide_struct hu hv
  obtain ⟨fuel, hf⟩ := h
  obtain ⟨xs, n, _, _, _, hlen, hg⟩ := DataW.trod_struct hu hf
  rw [c0] at hsz
  obtain ⟨l, rfl⟩ : ∃ l : List Value, cs = l.toArray := ⟨cs.toList, by simp⟩
  simp only [List.size_toArray] at hsz hlen
  match l, hsz, xs, hlen with
  | [u0, u1, u2, u3], _, [x0, x1], _ =>
    have g0 := hg 0 f0 rfl
    have g1 := hg 1 f1 rfl
    rw [e0, o0, c1] at g0
    rw [e1, o1, c2] at g1
    have g0' : DataW.trod enc Tryz.prog w 0 (fun _ => true) true n 50 [u0] = some x0 := g0
    have g1' : DataW.trod enc Tryz.prog w 0 (fun _ => true) true n 52 [u1, u2, u3] = some x1 := g1
    obtain ⟨ys, m, _, _, _, hl2, hg2⟩ := DataW.trod_struct hj g1'
    simp only [List.size_toArray] at hl2
    match ys, hl2 with
    | [y0, y1, y2], _ =>
      have k0 := hg2 0 j0 rfl
      have k1 := hg2 1 j1 rfl
      have k2 := hg2 2 j2 rfl
      rw [q0, r0, c3] at k0
      rw [q1, r1, c3] at k1
      rw [q2, r2, c3] at k2
      obtain ⟨z0, d0, _, _⟩ := DataW.trod_int Tryz.underlying3 k0
      have d0' : u1 = .int .i64 z0 := by have e : [u1] = [Value.int .i64 z0] := d0; simpa using e
      obtain ⟨z1, d1, _, _⟩ := DataW.trod_int Tryz.underlying3 k1
      have d1' : u2 = .int .i64 z1 := by have e : [u2] = [Value.int .i64 z1] := d1; simpa using e
      obtain ⟨z2, d2, _, _⟩ := DataW.trod_int Tryz.underlying3 k2
      have d2' : u3 = .int .i64 z2 := by have e : [u3] = [Value.int .i64 z2] := d2; simpa using e
      subst d0'; subst d1'; subst d2'
      obtain ⟨G0, G1, G2, G3, hue, ho, t0, t1, t2, t3⟩ := ground_fields
      obtain ⟨A, n', c', e⟩ : ∃ A n' c', u0 = .slice A n' c' := by
        rcases open_slice Tryz.underlying50 g0' with ⟨hcs, _⟩ | ⟨a, len, cap, _, _, _, _, hcs, _⟩
        · exact ⟨none, 0, 0, by simpa using hcs⟩
        · exact ⟨some a, len, cap, by simpa using hcs⟩
      subst e
      obtain ⟨l, h1, h2⟩ := open_gcells_at Tryz.underlying50 hue ho (by kernel_rfl) t0 t1 t2 t3 Tryz.underlying3 g0'
      exact ⟨A, n', c', l, z0, z1, z2, rfl, h1, h2⟩

end Go.Proofs.YtgljncfijcamhaaGreatDoor
