/- LayoutClosings: for all systems, closings and lengths, the length and the cost of the closing, and whether it closes the length, or the errors, are what the reference tells: the statement holds for every input, with no condition. -/
import Derived.Test.YtkcbfkflkepfeaaLawClo
import Derived.Test.YtkcbfkflkepfeaaLift
import Derived.Test.YtkcbfkflkepfeaaOpenSys
namespace Go.Proofs.Ytkcbfkflkepfeaa
open Go.ChangeShapes Go.WideShapes Go.ChangeAt Go.RowKit Go.Joins Go.Deep

theorem sys_fields : ∃ f0 f1 f2 f3 f4, Try.prog.underlying 24 = some (.struct #[f0, f1, f2, f3, f4]) ∧ oneCellFields Try.prog #[f0, f1, f2, f3, f4] = true ∧ f0.type = 22 ∧ f1.type = 22 ∧ f2.type = 3 ∧ f3.type = 3 ∧ f4.type = 3 := by
  exact ⟨(Try.prog.fieldsOf 24)[0]!, (Try.prog.fieldsOf 24)[1]!, (Try.prog.fieldsOf 24)[2]!, (Try.prog.fieldsOf 24)[3]!, (Try.prog.fieldsOf 24)[4]!, by kernel_rfl, by kernel_rfl, by kernel_rfl, by kernel_rfl, by kernel_rfl, by kernel_rfl, by kernel_rfl⟩

theorem clo_fields : ∃ f0 f1, Try.prog.underlying 26 = some (.struct #[f0, f1]) ∧ oneCellFields Try.prog #[f0, f1] = true ∧ f0.type = 22 ∧ f1.type = 22 := by
  exact ⟨(Try.prog.fieldsOf 26)[0]!, (Try.prog.fieldsOf 26)[1]!, by kernel_rfl, by kernel_rfl, by kernel_rfl, by kernel_rfl⟩

set_option maxRecDepth 100000 in
theorem closings_lifted (os : Os) (started : os.Started) (H : Type) (enc : TypeId × Value → H) :
    ReturnsInHanded {} Try.checked os 3 .any (Rows.layoutClosingsSpec.pre6 enc Try.prog Try.f3 Rows.layoutClosingsRow.domain false) (Rows.layoutClosingsSpec.post enc Try.prog Try.f3 false true false false) := by
  refine returnsInHanded_of_change (C := Try.checked) Try.own started (by kernel_rfl) Try.func3
    (ChangeSpec.witness6 (enc := enc) (C := Try.checked) false ⟨#[], #[.agg #[.slice none 0 0, .slice none 0 0, .int .i64 0, .int .i64 0, .int .i64 0], .agg #[.slice none 0 0, .slice none 0 0], .int .i64 0], []⟩ 8 (by kernel_rfl) (by kernel_rfl) (by kernel_rfl) (by kernel_rfl)) ?_
  intro W base args ds gs before hval0 hW _ _
  have hval : ∀ (j : Nat) t v, Try.f3.params[j]? = some t → args[j]? = some v → Value.okWide Try.prog W .any base t v := hval0
  have hW' := hW
  obtain ⟨p, q, hA0, hV, rfl, _, _⟩ := hW
  have hA : DataW.TrodAll enc Try.prog W 0 (fun _ => true) true Try.f3.params.toList args.toList ds p := hA0
  rw [Try.params3] at hA hval
  obtain ⟨v0, v1, v2, d0, d1, d2, p0, p1, p2, rfl, rfl, rfl, h0, h1, h2⟩ := trodAll_three hA
  obtain ⟨rfl, rfl⟩ := trodVars_none hV
  obtain ⟨f0, f1, f2, f3, f4, hu, ho, t0, t1, t2, t3, t4⟩ := sys_fields
  obtain ⟨A, n, c, A2, n2, c2, s, rfl, hs⟩ := open_two_three hu ho (by kernel_rfl) t0 t1 t2 t3 t4 Try.underlying22 (by kernel_rfl) Try.underlying3 Try.underlying3 (hval 0 24 v0 rfl rfl) h0
  obtain ⟨g0, g1, hu2, ho2, s0, s1⟩ := clo_fields
  obtain ⟨u0, u1, y0, y1, fl, rfl, -, -, k0, k1⟩ := open_agg2 hu2 ho2 (by kernel_rfl) (hval 1 26 v1 rfl rfl) h1
  rw [s0] at k0
  rw [s1] at k1
  obtain ⟨B, m, d, lb, rfl, hcb⟩ := open_nums Try.underlying22 Try.underlying3 (by kernel_rfl) k0
  obtain ⟨B2, m2, d2', lo, rfl, hco⟩ := open_nums Try.underlying22 Try.underlying3 (by kernel_rfl) k1
  obtain ⟨fuel2, hf2⟩ := h2
  obtain ⟨y, e2, _, _⟩ := DataW.trod_int Try.underlying3 hf2
  obtain rfl : v2 = .int .i64 y := by
    obtain ⟨x', rfl⟩ := okWide_int Try.underlying3 (hval 2 3 v2 rfl rfl)
    simpa [Value.cells] using e2
  refine (lawClo_any A A2 n c n2 c2 s W hs B B2 m d m2 d2' lb lo ⟨hcb, hco⟩ y).mono fun e W' ⟨hb, he⟩ => ?_
  subst he
  exact ⟨_, rfl, law_post (tb := 4) Try.laidOut (by kernel_rfl) (by kernel_rfl) Try.underlying4 rfl hW' rfl rfl rfl hb⟩

theorem closings_holds : Rows.LayoutClosingsSaid :=
  OpenClaim.holds_of_wide 3 Try.f3 rfl rfl rfl rfl rfl rfl rfl ⟨rfl, rfl, rfl, rfl, rfl⟩ rfl rfl rfl rfl rfl (by kernel_rfl) Try.func3 (by kernel_rfl)
    (of_decide_eq_true (by kernel_rfl)) (by unfold Func.isWrapper; first | (rw [if_pos (by decide +kernel)]; kernel_rfl) | (rw [if_neg (by decide +kernel)]; exact ⟨rfl, rfl⟩))
    (fun os started H enc _ => closings_lifted os started H enc)

end Go.Proofs.Ytkcbfkflkepfeaa
