/- LayoutWays: for all systems and lengths, the number of closings of a length, or the error, is what the reference tells: the statement holds for every input, with no condition. -/
import Derived.Test.YtkcbfkflkepfeaaLawWays
import Derived.Test.YtkcbfkflkepfeaaLift
import Derived.Test.YtkcbfkflkepfeaaOpenSys
namespace Go.Proofs.Ytkcbfkflkepfeaa
open Go.ChangeShapes Go.WideShapes Go.ChangeAt Go.RowKit Go.Joins Go.Deep

theorem sys_fields : ∃ f0 f1 f2 f3 f4, Try.prog.underlying 24 = some (.struct #[f0, f1, f2, f3, f4]) ∧ oneCellFields Try.prog #[f0, f1, f2, f3, f4] = true ∧ f0.type = 22 ∧ f1.type = 22 ∧ f2.type = 3 ∧ f3.type = 3 ∧ f4.type = 3 := by
  exact ⟨(Try.prog.fieldsOf 24)[0]!, (Try.prog.fieldsOf 24)[1]!, (Try.prog.fieldsOf 24)[2]!, (Try.prog.fieldsOf 24)[3]!, (Try.prog.fieldsOf 24)[4]!, by kernel_rfl, by kernel_rfl, by kernel_rfl, by kernel_rfl, by kernel_rfl, by kernel_rfl, by kernel_rfl⟩

set_option maxRecDepth 100000 in
theorem ways_lifted (os : Os) (started : os.Started) (H : Type) (enc : TypeId × Value → H) :
    ReturnsInHanded {} Try.checked os 6 .any (Rows.layoutWaysSpec.pre6 enc Try.prog Try.f6 Rows.layoutWaysRow.domain false) (Rows.layoutWaysSpec.post enc Try.prog Try.f6 false true false false) := by
  refine returnsInHanded_of_change (C := Try.checked) Try.own started (by kernel_rfl) Try.func6
    (ChangeSpec.witness6 (enc := enc) (C := Try.checked) false ⟨#[], #[.agg #[.slice none 0 0, .slice none 0 0, .int .i64 0, .int .i64 0, .int .i64 0], .int .i64 0], []⟩ 8 (by kernel_rfl) (by kernel_rfl) (by kernel_rfl) (by kernel_rfl)) ?_
  intro W base args ds gs before hval0 hW _ _
  have hval : ∀ (j : Nat) t v, Try.f6.params[j]? = some t → args[j]? = some v → Value.okWide Try.prog W .any base t v := hval0
  have hW' := hW
  obtain ⟨p, q, hA0, hV, rfl, _, _⟩ := hW
  have hA : DataW.TrodAll enc Try.prog W 0 (fun _ => true) true Try.f6.params.toList args.toList ds p := hA0
  rw [Try.params6] at hA hval
  obtain ⟨v0, v1, d0, d1, p0, p1, rfl, rfl, rfl, h0, h1⟩ := trodAll_two hA
  obtain ⟨rfl, rfl⟩ := trodVars_none hV
  obtain ⟨f0, f1, f2, f3, f4, hu, ho, t0, t1, t2, t3, t4⟩ := sys_fields
  obtain ⟨A, n, c, A2, n2, c2, s, rfl, hs⟩ := open_two_three hu ho (by kernel_rfl) t0 t1 t2 t3 t4 Try.underlying22 (by kernel_rfl) Try.underlying3 Try.underlying3 (hval 0 24 v0 rfl rfl) h0
  obtain ⟨fuel, hf⟩ := h1
  obtain ⟨x, e1, _, _⟩ := DataW.trod_int Try.underlying3 hf
  obtain rfl : v1 = .int .i64 x := by
    obtain ⟨x', rfl⟩ := okWide_int Try.underlying3 (hval 1 3 v1 rfl rfl)
    simpa [Value.cells] using e1
  refine (lawWays_any A A2 n c n2 c2 s W hs x).mono fun e W' ⟨hb, he⟩ => ?_
  subst he
  exact ⟨_, rfl, law_post (tb := 4) Try.laidOut (by kernel_rfl) (by kernel_rfl) Try.underlying4 rfl hW' rfl rfl rfl hb⟩

theorem ways_holds : Rows.LayoutWaysSaid :=
  OpenClaim.holds_of_wide 6 Try.f6 rfl rfl rfl rfl rfl rfl rfl ⟨rfl, rfl, rfl, rfl, rfl⟩ rfl rfl rfl rfl rfl (by kernel_rfl) Try.func6 (by kernel_rfl)
    (of_decide_eq_true (by kernel_rfl)) (by unfold Func.isWrapper; first | (rw [if_pos (by decide +kernel)]; kernel_rfl) | (rw [if_neg (by decide +kernel)]; exact ⟨rfl, rfl⟩))
    (fun os started H enc _ => ways_lifted os started H enc)

end Go.Proofs.Ytkcbfkflkepfeaa
