/- ExactField: for all fractions, also such as are not in normal form, sums, products and quotients are those of a field with an order, and Floor is the greatest integer below: the statement holds for every input, with no condition. -/
import Derived.Test.YtgfbanlefkajhaaGreatLawField
import Derived.Test.YtgfbanlefkajhaaGreatOpenI
namespace Go.Proofs.YtgfbanlefkajhaaGreat
open Go.ChangeShapes Go.WideShapes Go.ChangeAt Go.RowKit Go.Joins Go.Deep

set_option maxRecDepth 100000 in
/-- Two cells that read as an integer. -/
theorem open_IC {H : Type} {enc : TypeId × Value → H} {w : World} {a b : Value} {fuel : Nat} {x : DataW H × List MemPlace}
    (h : DataW.trod enc Tryz.prog w 0 (fun _ => true) true fuel 24 [a, b] = some x) :
    ∃ (s : Bool) (A : Option Addr) (n c : Nat) (l : List Nat), a = .bool s ∧ b = .slice A n c ∧ Lim w w.heap.size A n c l := by
  obtain ⟨f0, f1, hu, ho, t0, t1⟩ : ∃ f0 f1, Tryz.prog.underlying 24 = some (.struct #[f0, f1]) ∧ oneCellFields Tryz.prog #[f0, f1] = true ∧ f0.type = 4 ∧ f1.type = 22 :=
    ⟨(Tryz.prog.fieldsOf 24)[0]!, (Tryz.prog.fieldsOf 24)[1]!, by kernel_rfl, by kernel_rfl, by kernel_rfl, by kernel_rfl⟩
  obtain ⟨y0, y1, n, -, -, h0, h1⟩ := trod_struct2 hu h
  obtain ⟨o0, k0⟩ := hone_of ho 0 f0 rfl
  obtain ⟨o1, k1⟩ := hone_of ho 1 f1 rfl
  have j0 : DataW.trod enc Tryz.prog w 0 (fun _ => true) true n f0.type [a] = some y0 := by simpa [o0, k0] using h0
  have j1 : DataW.trod enc Tryz.prog w 0 (fun _ => true) true n f1.type [b] = some y1 := by simpa [o1, k1] using h1
  rw [t0] at j0
  rw [t1] at j1
  obtain ⟨s, e0, -⟩ := DataW.trod_bool Tryz.underlying4 j0
  obtain ⟨A, m, c, l, e1, hl⟩ := open_limbs Tryz.underlying22 Tryz.underlying68 (by kernel_rfl) j1
  have e0' : a = .bool s := by simpa using e0
  exact ⟨s, A, m, c, l, e0', e1, hl⟩
set_option maxRecDepth 100000 in
/-- An argument that is a fraction. -/
theorem open_R {H : Type} {enc : TypeId × Value → H} {w : World} {v : Value} {d : DataW H} {ps : List MemPlace} {r : Reach} {b0 : Nat}
    (hv : Value.okWide Tryz.prog w r b0 41 v) (h : DataW.Trod enc Tryz.prog w 0 (fun _ => true) true 41 v d ps) :
    ∃ (s : Bool) (A : Option Addr) (n c : Nat) (l : List Nat) (t : Bool) (B : Option Addr) (m e : Nat) (k : List Nat), v = .agg #[.bool s, .slice A n c, .bool t, .slice B m e] ∧ Lim w w.heap.size A n c l ∧ Lim w w.heap.size B m e k := by
  obtain ⟨f0, f1, hu, t0, t1, o0, o1⟩ : ∃ f0 f1, Tryz.prog.underlying 41 = some (.struct #[f0, f1]) ∧ f0.type = 24 ∧ f1.type = 24 ∧ f0.offset = 0 ∧ f1.offset = 2 :=
    ⟨(Tryz.prog.fieldsOf 41)[0]!, (Tryz.prog.fieldsOf 41)[1]!, by kernel_rfl, by kernel_rfl, by kernel_rfl, by kernel_rfl, by kernel_rfl⟩
  have hI : Tryz.prog.cellsOf 24 = 2 := by kernel_rfl
  have hR : Tryz.prog.cellsOf 41 = 4 := by kernel_rfl
  obtain ⟨cs, rfl, hsz⟩ := okWide_struct hu hv
  obtain ⟨c0, c1, c2, c3, rfl⟩ := array4 (hsz.trans hR)
  obtain ⟨fuel, hf⟩ := h
  obtain ⟨y0, y1, n, -, -, h0, h1⟩ := trod_struct2 hu hf
  have j0 : DataW.trod enc Tryz.prog w 0 (fun _ => true) true n 24 [c0, c1] = some y0 := by simpa [Value.cells, t0, o0, hI] using h0
  have j1 : DataW.trod enc Tryz.prog w 0 (fun _ => true) true n 24 [c2, c3] = some y1 := by simpa [Value.cells, t1, o1, hI] using h1
  obtain ⟨s, A, n1, c, l, rfl, rfl, hl⟩ := open_IC j0
  obtain ⟨t, B, m, e, k, rfl, rfl, hk⟩ := open_IC j1
  exact ⟨s, A, n1, c, l, t, B, m, e, k, rfl, hl, hk⟩

set_option maxRecDepth 100000 in
theorem field_lifted (os : Os) (started : os.Started) (H : Type) (enc : TypeId × Value → H) :
    ReturnsInHanded {} Tryz.checked os 5 .any (Rows.exactFieldSpec.pre6 enc Tryz.prog Tryz.f5 Rows.exactFieldRow.domain false) (Rows.exactFieldSpec.post enc Tryz.prog Tryz.f5 false true false false) := by
  refine returnsInHanded_of_change (C := Tryz.checked) Tryz.own started (by kernel_rfl) Tryz.func5
    (ChangeSpec.witness6 (enc := enc) (C := Tryz.checked) false ⟨#[], #[.agg #[.bool false, .slice none 0 0, .bool false, .slice none 0 0], .agg #[.bool false, .slice none 0 0, .bool false, .slice none 0 0], .agg #[.bool false, .slice none 0 0, .bool false, .slice none 0 0]], []⟩ 8 (by kernel_rfl) (by kernel_rfl) (by kernel_rfl) (by kernel_rfl)) ?_
  intro W base args ds gs before hval0 hW _ _
  have hval : ∀ (j : Nat) t v, Tryz.f5.params[j]? = some t → args[j]? = some v → Value.okWide Tryz.prog W .any base t v := hval0
  have hW' := hW
  obtain ⟨p, q, hA0, hV, rfl, _, _⟩ := hW
  have hA : DataW.TrodAll enc Tryz.prog W 0 (fun _ => true) true Tryz.f5.params.toList args.toList ds p := hA0
  rw [Tryz.params5] at hA hval
  obtain ⟨v0, v1, v2, d0, d1, d2, p0, p1, p2, rfl, rfl, rfl, h0, h1, h2⟩ := trodAll_three hA
  obtain ⟨rfl, rfl⟩ := trodVars_none hV
  obtain ⟨s0, A0, n0, c0, l0, t0, B0, m0, e0, k0, rfl, g0, j0⟩ := open_R (hval 0 _ v0 rfl rfl) h0
  obtain ⟨s1, A1, n1, c1, l1, t1, B1, m1, e1, k1, rfl, g1, j1⟩ := open_R (hval 1 _ v1 rfl rfl) h1
  obtain ⟨s2, A2, n2, c2, l2, t2, B2, m2, e2, k2, rfl, g2, j2⟩ := open_R (hval 2 _ v2 rfl rfl) h2
  refine (lawField_any s0 t0 s1 t1 s2 t2 A0 B0 A1 B1 A2 B2 n0 c0 m0 e0 n1 c1 m1 e1 n2 c2 m2 e2 l0 k0 l1 k1 l2 k2 W g0 j0 g1 j1 g2 j2).mono fun e W' ⟨hb, he⟩ => ?_
  subst he
  exact ⟨_, rfl, law_post (tb := 4) Tryz.laidOut (by kernel_rfl) (by kernel_rfl) Tryz.underlying4 rfl hW' rfl rfl rfl hb⟩

theorem field_holds : Rows.ExactFieldSaid :=
  OpenClaim.holds_of_wide 5 Tryz.f5 rfl rfl rfl rfl rfl rfl rfl ⟨rfl, rfl, rfl, rfl, rfl⟩ rfl rfl rfl rfl rfl (by kernel_rfl) Tryz.func5 (by kernel_rfl)
    (of_decide_eq_true (by kernel_rfl)) (by unfold Func.isWrapper; first | (rw [if_pos (by decide +kernel)]; kernel_rfl) | (rw [if_neg (by decide +kernel)]; exact ⟨rfl, rfl⟩))
    (fun os started H enc _ => field_lifted os started H enc)

end Go.Proofs.YtgfbanlefkajhaaGreat
