/- BuildingBoxes: for all boxes x and y, what CheckBox, Overlap and Common tell is what the reference tells: the statement holds for every input, with no condition. -/
import Derived.Test.YtbfbjpnmgcpjlaaLawBoxes
import Derived.Test.YtbfbjpnmgcpjlaaAwake
import Derived.Test.YtbfbjpnmgcpjlaaLift
import Derived.Test.YtbfbjpnmgcpjlaaAgg6
namespace Go.Proofs.Ytbfbjpnmgcpjlaa
open Go.ChangeShapes Go.WideShapes Go.ChangeAt Go.RowKit Go.Joins

theorem lawBoxes_any (x1 y1 z1 x2 y2 z2 u1 v1 t1 u2 v2 t2 : Int) (w : World) :
    Calls Try.prog 3 #[.agg #[.int .i64 x1, .int .i64 y1, .int .i64 z1, .int .i64 x2, .int .i64 y2, .int .i64 z2], .agg #[.int .i64 u1, .int .i64 v1, .int .i64 t1, .int .i64 u2, .int .i64 v2, .int .i64 t2]] w fun e w' => Below w.heap.size w w' ∧ e = .returned (.bool true) := by
  have c1 := fun W : World => overlap_any x1 y1 z1 x2 y2 z2 u1 v1 t1 u2 v2 t2 W
  have c2 := fun W : World => Common_any x1 y1 z1 x2 y2 z2 u1 v1 t1 u2 v2 t2 W
  have c3 := fun W : World => refCheckBox_any x1 y1 z1 x2 y2 z2 W
  have c4 := fun W : World => checkBox_any x1 y1 z1 x2 y2 z2 W
  have c5 := fun W : World => refCheckBox_any u1 v1 t1 u2 v2 t2 W
  have c6 := fun W : World => refCommon_any x1 y1 z1 x2 y2 z2 u1 v1 t1 u2 v2 t2 W
  by_cases hx : boxErr x1 y1 z1 x2 y2 z2 = 0
  · by_cases hu : boxErr u1 v1 t1 u2 v2 t2 = 0
    · have hb := bothErr_eq hx hu
      have hbe : boxesErr 0 0 = 0 := rfl
      rw [hx, hu, hbe] at c1 c2
      rw [hx] at c3 c4
      rw [hu] at c5
      rw [if_pos rfl, hb] at c2
      rw [hb] at c1
      rcases hh : hollow x1 y1 z1 x2 y2 z2 u1 v1 t1 u2 v2 t2
      · rw [hh] at c1 c2 c6
        exact lawBoxes_c x1 y1 z1 x2 y2 z2 u1 v1 t1 u2 v2 t2 (max x1 u1) (max y1 v1) (max z1 t1) (min x2 u2) (min y2 v2) (min z2 t2) true 0 w awake_any (.inl ⟨rfl, rfl⟩) c1 c2 c3 c4 c5 c6
      · rw [hh] at c1 c2 c6
        exact lawBoxes_c x1 y1 z1 x2 y2 z2 u1 v1 t1 u2 v2 t2 0 0 0 0 0 0 false 27 w awake_any (.inr ⟨rfl, rfl⟩) c1 c2 c3 c4 c5 c6
    · have hbe : boxesErr 0 (boxErr u1 v1 t1 u2 v2 t2) = boxErr u1 v1 t1 u2 v2 t2 := rfl
      rw [hx, hbe] at c1 c2
      rw [hx] at c3 c4
      rw [if_neg hu] at c2
      rw [show (boxErr u1 v1 t1 u2 v2 t2 == 0) = false by simpa using hu, Bool.false_and] at c1
      exact lawBoxes_b x1 y1 z1 x2 y2 z2 u1 v1 t1 u2 v2 t2 _ w awake_any hu c1 c2 c3 c4 c5
  · have hbe : boxesErr (boxErr x1 y1 z1 x2 y2 z2) (boxErr u1 v1 t1 u2 v2 t2) = boxErr x1 y1 z1 x2 y2 z2 := by unfold boxesErr; rw [if_neg hx]
    rw [hbe] at c1 c2
    rw [if_neg hx] at c2
    rw [show (boxErr x1 y1 z1 x2 y2 z2 == 0) = false by simpa using hx, Bool.false_and] at c1
    exact lawBoxes_a x1 y1 z1 x2 y2 z2 u1 v1 t1 u2 v2 t2 _ w awake_any hx c1 c2 c3 c4

theorem box_field : ∀ (j : Nat) (f : Field), (Try.prog.fieldsOf 23)[j]? = some f → f.type = 3 := by
  have h : (Try.prog.fieldsOf 23).all (fun f => f.type == 3) = true := by kernel_rfl
  intro j f hj
  obtain ⟨hlt, rfl⟩ := Array.getElem?_eq_some_iff.1 hj
  have := Array.all_eq_true.1 h j hlt
  simpa using this

set_option maxRecDepth 100000 in
theorem boxes_lifted (os : Os) (started : os.Started) (H : Type) (enc : TypeId × Value → H) :
    ReturnsInHanded {} Try.checked os 3 .any (Rows.buildingBoxesSpec.pre6 enc Try.prog Try.f3 Rows.buildingBoxesRow.domain false) (Rows.buildingBoxesSpec.post enc Try.prog Try.f3 false true false false) := by
  refine returnsInHanded_of_change (C := Try.checked) Try.own started (by kernel_rfl) Try.func3
    (ChangeSpec.witness6 (enc := enc) (C := Try.checked) false ⟨#[], #[.agg #[.int .i64 0, .int .i64 0, .int .i64 0, .int .i64 0, .int .i64 0, .int .i64 0], .agg #[.int .i64 0, .int .i64 0, .int .i64 0, .int .i64 0, .int .i64 0, .int .i64 0]], []⟩ 8 (by kernel_rfl) (by kernel_rfl) (by kernel_rfl) (by kernel_rfl)) ?_
  intro W base args ds gs before hval0 hW _ _
  have hval : ∀ (j : Nat) t v, Try.f3.params[j]? = some t → args[j]? = some v → Value.okWide Try.prog W .any base t v := hval0
  have hW' := hW
  obtain ⟨p, q, hA0, hV, rfl, _, _⟩ := hW
  have hA : DataW.TrodAll enc Try.prog W 0 (fun _ => true) true Try.f3.params.toList args.toList ds p := hA0
  rw [Try.params3] at hA hval
  obtain ⟨v0, v1, d0, d1, p0, p1, rfl, rfl, rfl, h0, h1⟩ := trodAll_two hA
  obtain ⟨rfl, rfl⟩ := trodVars_none hV
  obtain ⟨l0, hl0, rfl⟩ := open_ints_fields (fs := Try.prog.fieldsOf 23) (ti := 3) (by kernel_rfl) (by kernel_rfl) (by kernel_rfl) box_field Try.underlying3 (hval 0 23 v0 rfl rfl) h0
  obtain ⟨l1, hl1, rfl⟩ := open_ints_fields (fs := Try.prog.fieldsOf 23) (ti := 3) (by kernel_rfl) (by kernel_rfl) (by kernel_rfl) box_field Try.underlying3 (hval 1 23 v1 rfl rfl) h1
  obtain ⟨x1, y1, z1, x2, y2, z2, rfl⟩ := six_of (hl0.trans (by kernel_rfl))
  obtain ⟨u1, v1, t1, u2, v2, t2, rfl⟩ := six_of (hl1.trans (by kernel_rfl))
  refine (lawBoxes_any x1 y1 z1 x2 y2 z2 u1 v1 t1 u2 v2 t2 W).mono fun e W' ⟨hb, he⟩ => ?_
  subst he
  exact ⟨_, rfl, law_post (tb := 4) Try.laidOut (by kernel_rfl) (by kernel_rfl) Try.underlying4 rfl hW' rfl rfl rfl hb⟩

theorem boxes_holds : Rows.BuildingBoxesSaid :=
  OpenClaim.holds_of_wide 3 Try.f3 rfl rfl rfl rfl rfl rfl rfl ⟨rfl, rfl, rfl, rfl, rfl⟩ rfl rfl rfl rfl rfl (by kernel_rfl) Try.func3 (by kernel_rfl)
    (of_decide_eq_true (by kernel_rfl)) (by unfold Func.isWrapper; first | (rw [if_pos (by decide +kernel)]; kernel_rfl) | (rw [if_neg (by decide +kernel)]; exact ⟨rfl, rfl⟩))
    (fun os started H enc _ => boxes_lifted os started H enc)

end Go.Proofs.Ytbfbjpnmgcpjlaa
