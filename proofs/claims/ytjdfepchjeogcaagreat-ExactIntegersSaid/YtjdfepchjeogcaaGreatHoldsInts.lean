/- ExactIntegers: Of, Small, Sum, Diff, Prod, Divide and CmpInt of the program return what the reference returns, for all integers, also such as are not in normal form: the statement holds for every input, with no condition. -/
import Derived.Test.YtjdfepchjeogcaaGreatLawInts
import Derived.Test.YtjdfepchjeogcaaGreatOpenI
namespace Go.Proofs.YtjdfepchjeogcaaGreat
open Go.ChangeShapes Go.WideShapes Go.ChangeAt Go.RowKit Go.Joins Go.Deep

set_option maxRecDepth 100000 in
theorem ints_lifted (os : Os) (started : os.Started) (H : Type) (enc : TypeId × Value → H) :
    ReturnsInHanded {} Tryz.checked os 3 .any (Rows.exactIntegersSpec.pre6 enc Tryz.prog Tryz.f3 Rows.exactIntegersRow.domain false) (Rows.exactIntegersSpec.post enc Tryz.prog Tryz.f3 false true false false) := by
  refine returnsInHanded_of_change (C := Tryz.checked) Tryz.own started (by kernel_rfl) Tryz.func3
    (ChangeSpec.witness6 (enc := enc) (C := Tryz.checked) false ⟨#[], #[.agg #[.bool false, .slice none 0 0], .agg #[.bool false, .slice none 0 0], .int .i64 0], []⟩ 8 (by kernel_rfl) (by kernel_rfl) (by kernel_rfl) (by kernel_rfl)) ?_
  intro W base args ds gs before hval0 hW _ _
  have hval : ∀ (j : Nat) t v, Tryz.f3.params[j]? = some t → args[j]? = some v → Value.okWide Tryz.prog W .any base t v := hval0
  have hW' := hW
  obtain ⟨p, q, hA0, hV, rfl, _, _⟩ := hW
  have hA : DataW.TrodAll enc Tryz.prog W 0 (fun _ => true) true Tryz.f3.params.toList args.toList ds p := hA0
  rw [Tryz.params3] at hA hval
  obtain ⟨v0, v1, v2, d0, d1, d2, p0, p1, p2, rfl, rfl, rfl, h0, h1, h2⟩ := trodAll_three hA
  obtain ⟨rfl, rfl⟩ := trodVars_none hV
  obtain ⟨s0, A0, n0, c0, l0, rfl, g0⟩ := open_I (hval 0 _ v0 rfl rfl) h0
  obtain ⟨s1, A1, n1, c1, l1, rfl, g1⟩ := open_I (hval 1 _ v1 rfl rfl) h1
  obtain ⟨fuel, hf⟩ := h2
  obtain ⟨z, e1, _, hwf⟩ := DataW.trod_int Tryz.underlying3 hf
  obtain rfl : v2 = .int .i64 z := by
    obtain ⟨x', rfl⟩ := okWide_int Tryz.underlying3 (hval 2 3 v2 rfl rfl)
    simpa [Value.cells] using e1
  have hr : -9223372036854775808 ≤ z ∧ z ≤ 9223372036854775807 := by
    simp only [Lit.wf, Bool.and_eq_true, decide_eq_true_eq] at hwf
    exact hwf
  refine (lawInts_any s0 s1 A0 A1 n0 c0 n1 c1 l0 l1 z W g0 g1 hr.1 hr.2).mono fun e W' ⟨hb, he⟩ => ?_
  subst he
  exact ⟨_, rfl, law_post (tb := 4) Tryz.laidOut (by kernel_rfl) (by kernel_rfl) Tryz.underlying4 rfl hW' rfl rfl rfl hb⟩

theorem ints_holds : Rows.ExactIntegersSaid :=
  OpenClaim.holds_of_wide 3 Tryz.f3 rfl rfl rfl rfl rfl rfl rfl ⟨rfl, rfl, rfl, rfl, rfl⟩ rfl rfl rfl rfl rfl (by kernel_rfl) Tryz.func3 (by kernel_rfl)
    (of_decide_eq_true (by kernel_rfl)) (by unfold Func.isWrapper; first | (rw [if_pos (by decide +kernel)]; kernel_rfl) | (rw [if_neg (by decide +kernel)]; exact ⟨rfl, rfl⟩))
    (fun os started H enc _ => ints_lifted os started H enc)

end Go.Proofs.YtjdfepchjeogcaaGreat
