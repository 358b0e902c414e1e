/- BuildingPierces: for all boxes and nodes, what Pierces tells, from a to b and from b to a, is what the reference tells: the statement holds for every input, with no condition. -/
import Derived.Test.YtbfbjpnmgcpjlaaLawPierces
import Derived.Test.YtbfbjpnmgcpjlaaHoldsBoxes
namespace Go.Proofs.Ytbfbjpnmgcpjlaa
open Go.ChangeShapes Go.WideShapes Go.ChangeAt Go.RowKit Go.Joins

theorem node_field : ∀ (j : Nat) (f : Field), (Try.prog.fieldsOf 36)[j]? = some f → f.type = 3 := by
  have h : (Try.prog.fieldsOf 36).all (fun f => f.type == 3) = true := by kernel_rfl
  intro j f hj
  obtain ⟨hlt, rfl⟩ := Array.getElem?_eq_some_iff.1 hj
  have := Array.all_eq_true.1 h j hlt
  simpa using this

set_option maxRecDepth 100000 in
theorem pierces_lifted (os : Os) (started : os.Started) (H : Type) (enc : TypeId × Value → H) :
    ReturnsInHanded {} Try.checked os 4 .any (Rows.buildingPiercesSpec.pre6 enc Try.prog Try.f4 Rows.buildingPiercesRow.domain false) (Rows.buildingPiercesSpec.post enc Try.prog Try.f4 false true false false) := by
  refine returnsInHanded_of_change (C := Try.checked) Try.own started (by kernel_rfl) Try.func4
    (ChangeSpec.witness6 (enc := enc) (C := Try.checked) false ⟨#[], #[.agg #[.int .i64 0, .int .i64 0, .int .i64 0, .int .i64 0, .int .i64 0, .int .i64 0], .agg #[.int .i64 0, .int .i64 0, .int .i64 0], .agg #[.int .i64 0, .int .i64 0, .int .i64 0]], []⟩ 8 (by kernel_rfl) (by kernel_rfl) (by kernel_rfl) (by kernel_rfl)) ?_
  intro W base args ds gs before hval0 hW _ _
  have hval : ∀ (j : Nat) t v, Try.f4.params[j]? = some t → args[j]? = some v → Value.okWide Try.prog W .any base t v := hval0
  have hW' := hW
  obtain ⟨p, q, hA0, hV, rfl, _, _⟩ := hW
  have hA : DataW.TrodAll enc Try.prog W 0 (fun _ => true) true Try.f4.params.toList args.toList ds p := hA0
  rw [Try.params4] at hA hval
  obtain ⟨v0, v1, v2, d0, d1, d2, p0, p1, p2, rfl, rfl, rfl, h0, h1, h2⟩ := trodAll_three hA
  obtain ⟨rfl, rfl⟩ := trodVars_none hV
  obtain ⟨l0, hl0, rfl⟩ := open_ints_fields (fs := Try.prog.fieldsOf 23) (ti := 3) (by kernel_rfl) (by kernel_rfl) (by kernel_rfl) box_field Try.underlying3 (hval 0 23 v0 rfl rfl) h0
  obtain ⟨l1, hl1, rfl⟩ := open_ints_fields (fs := Try.prog.fieldsOf 36) (ti := 3) (by kernel_rfl) (by kernel_rfl) (by kernel_rfl) node_field Try.underlying3 (hval 1 36 v1 rfl rfl) h1
  obtain ⟨l2, hl2, rfl⟩ := open_ints_fields (fs := Try.prog.fieldsOf 36) (ti := 3) (by kernel_rfl) (by kernel_rfl) (by kernel_rfl) node_field Try.underlying3 (hval 2 36 v2 rfl rfl) h2
  obtain ⟨x1, y1, z1, x2, y2, z2, rfl⟩ := six_of (hl0.trans (by kernel_rfl))
  obtain ⟨a1, a2, a3, rfl⟩ := three_of (hl1.trans (by kernel_rfl))
  obtain ⟨b1, b2, b3, rfl⟩ := three_of (hl2.trans (by kernel_rfl))
  refine (lawPierces_any x1 y1 z1 x2 y2 z2 a1 a2 a3 b1 b2 b3 W).mono fun e W' ⟨hb, he⟩ => ?_
  subst he
  exact ⟨_, rfl, law_post (tb := 4) Try.laidOut (by kernel_rfl) (by kernel_rfl) Try.underlying4 rfl hW' rfl rfl rfl hb⟩

theorem pierces_holds : Rows.BuildingPiercesSaid :=
  OpenClaim.holds_of_wide 4 Try.f4 rfl rfl rfl rfl rfl rfl rfl ⟨rfl, rfl, rfl, rfl, rfl⟩ rfl rfl rfl rfl rfl (by kernel_rfl) Try.func4 (by kernel_rfl)
    (of_decide_eq_true (by kernel_rfl)) (by unfold Func.isWrapper; first | (rw [if_pos (by decide +kernel)]; kernel_rfl) | (rw [if_neg (by decide +kernel)]; exact ⟨rfl, rfl⟩))
    (fun os started H enc _ => pierces_lifted os started H enc)

end Go.Proofs.Ytbfbjpnmgcpjlaa
