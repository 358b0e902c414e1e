/- BuildingOutlines: for all lists of points, what CheckOutline, Area, Walls and Corners tell is what the reference tells: the statement holds for every input, with no condition. -/
import Derived.Test.YtbfbjpnmgcpjlaaLawOut
import Derived.Test.YtbfbjpnmgcpjlaaLift
import Derived.Test.YtbfbjpnmgcpjlaaOpenPts
namespace Go.Proofs.Ytbfbjpnmgcpjlaa
open Go.ChangeShapes Go.WideShapes Go.ChangeAt Go.RowKit Go.Joins Go.Deep

theorem lawOut_any (A : Option Addr) (n c : Nat) (l : List (Int × Int)) (w : World) (h : Pts w w.heap.size A n c l) (hA : A = none → n = 0 ∧ c = 0) :
    Calls Try.prog 5 #[.slice A n c] w fun e w' => Below w.heap.size w w' ∧ e = .returned (.bool true) := by
  rcases Nat.lt_or_ge 45 n with hn | hn
  · exact lawOut_many A n c w (by have := h.cap; have := h.max; omega) hn
  · by_cases ho : outErr l = 0
    · exact lawOut_good A n c l w h hA hn ho
    · exact lawOut_bad A n c l w h hA hn ho

theorem point_fields : ∃ f0 f1, Try.prog.underlying 57 = some (.struct #[f0, f1]) ∧ oneCellFields Try.prog #[f0, f1] = true ∧ f0.type = 3 ∧ f1.type = 3 := by
  exact ⟨(Try.prog.fieldsOf 57)[0]!, (Try.prog.fieldsOf 57)[1]!, by kernel_rfl, by kernel_rfl, by kernel_rfl, by kernel_rfl⟩

set_option maxRecDepth 100000 in
theorem out_lifted (os : Os) (started : os.Started) (H : Type) (enc : TypeId × Value → H) :
    ReturnsInHanded {} Try.checked os 5 .any (Rows.buildingOutlinesSpec.pre6 enc Try.prog Try.f5 Rows.buildingOutlinesRow.domain false) (Rows.buildingOutlinesSpec.post enc Try.prog Try.f5 false true false false) := by
  refine returnsInHanded_of_change (C := Try.checked) Try.own started (by kernel_rfl) Try.func5
    (ChangeSpec.witness6 (enc := enc) (C := Try.checked) false ⟨#[], #[.slice none 0 0], []⟩ 8 (by kernel_rfl) (by kernel_rfl) (by kernel_rfl) (by kernel_rfl)) ?_
  intro W base args ds gs before hval0 hW _ _
  have hval : ∀ (j : Nat) t v, Try.f5.params[j]? = some t → args[j]? = some v → Value.okWide Try.prog W .any base t v := hval0
  have hW' := hW
  obtain ⟨p, q, hA0, hV, rfl, _, _⟩ := hW
  have hA : DataW.TrodAll enc Try.prog W 0 (fun _ => true) true Try.f5.params.toList args.toList ds p := hA0
  rw [Try.params5] at hA hval
  obtain ⟨v0, d0, rfl, rfl, h0⟩ := trodAll_one hA
  obtain ⟨rfl, rfl⟩ := trodVars_none hV
  obtain ⟨f0, f1, hu, ho, ht0, ht1⟩ := point_fields
  obtain ⟨A, n, c, l, rfl, hp, hA⟩ := open_points Try.underlying40 hu ho (by kernel_rfl) ht0 ht1 Try.underlying3 (hval 0 40 v0 rfl rfl) h0
  refine (lawOut_any A n c l W hp hA).mono fun e W' ⟨hb, he⟩ => ?_
  subst he
  exact ⟨_, rfl, law_post (tb := 4) Try.laidOut (by kernel_rfl) (by kernel_rfl) Try.underlying4 rfl hW' rfl rfl rfl hb⟩

theorem out_holds : Rows.BuildingOutlinesSaid :=
  OpenClaim.holds_of_wide 5 Try.f5 rfl rfl rfl rfl rfl rfl rfl ⟨rfl, rfl, rfl, rfl, rfl⟩ rfl rfl rfl rfl rfl (by kernel_rfl) Try.func5 (by kernel_rfl)
    (of_decide_eq_true (by kernel_rfl)) (by unfold Func.isWrapper; first | (rw [if_pos (by decide +kernel)]; kernel_rfl) | (rw [if_neg (by decide +kernel)]; exact ⟨rfl, rfl⟩))
    (fun os started H enc _ => out_lifted os started H enc)

end Go.Proofs.Ytbfbjpnmgcpjlaa
