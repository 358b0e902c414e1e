/- BuildingPlaces: for all lists of points and all places, what Where and Distance tell is what the reference tells: the statement holds for every input, with no condition. -/
import Derived.Test.YtbfbjpnmgcpjlaaLawPlaces
import Derived.Test.YtbfbjpnmgcpjlaaHoldsOut
namespace Go.Proofs.Ytbfbjpnmgcpjlaa
open Go.ChangeShapes Go.WideShapes Go.ChangeAt Go.RowKit Go.Joins Go.Deep

theorem lawPlaces_any (A : Option Addr) (n c : Nat) (l : List (Int × Int)) (x y : Int) (w : World) (h : Pts w w.heap.size A n c l) (hA : A = none → n = 0 ∧ c = 0) :
    Calls Try.prog 6 #[.slice A n c, .agg #[.int .i64 x, .int .i64 y]] w fun e w' => Below w.heap.size w w' ∧ e = .returned (.bool true) := by
  rcases Nat.lt_or_ge 45 n with hn | hn
  · exact lawPlaces_many A n c x y w (by have := h.cap; have := h.max; omega) hn
  · by_cases ho : outErr l = 0
    · by_cases hq : placeErr x y = 0
      · exact lawPlaces_good A n c l x y w h hA hn ho hq
      · exact lawPlaces_bad2 A n c l x y w h hA hn ho hq
    · exact lawPlaces_bad1 A n c l x y w h hA hn ho

theorem point_field : ∀ (j : Nat) (f : Field), (Try.prog.fieldsOf 57)[j]? = some f → f.type = 3 := by
  have h : (Try.prog.fieldsOf 57).all (fun f => f.type == 3) = true := by kernel_rfl
  intro j f hj
  obtain ⟨hlt, rfl⟩ := Array.getElem?_eq_some_iff.1 hj
  have := Array.all_eq_true.1 h j hlt
  simpa using this

set_option maxRecDepth 100000 in
theorem places_lifted (os : Os) (started : os.Started) (H : Type) (enc : TypeId × Value → H) :
    ReturnsInHanded {} Try.checked os 6 .any (Rows.buildingPlacesSpec.pre6 enc Try.prog Try.f6 Rows.buildingPlacesRow.domain false) (Rows.buildingPlacesSpec.post enc Try.prog Try.f6 false true false false) := by
  refine returnsInHanded_of_change (C := Try.checked) Try.own started (by kernel_rfl) Try.func6
    (ChangeSpec.witness6 (enc := enc) (C := Try.checked) false ⟨#[], #[.slice none 0 0, .agg #[.int .i64 0, .int .i64 0]], []⟩ 8 (by kernel_rfl) (by kernel_rfl) (by kernel_rfl) (by kernel_rfl)) ?_
  intro W base args ds gs before hval0 hW _ _
  have hval : ∀ (j : Nat) t v, Try.f6.params[j]? = some t → args[j]? = some v → Value.okWide Try.prog W .any base t v := hval0
  have hW' := hW
  obtain ⟨p, q, hA0, hV, rfl, _, _⟩ := hW
  have hA : DataW.TrodAll enc Try.prog W 0 (fun _ => true) true Try.f6.params.toList args.toList ds p := hA0
  rw [Try.params6] at hA hval
  obtain ⟨v0, v1, d0, d1, p0, p1, rfl, rfl, rfl, h0, h1⟩ := trodAll_two hA
  obtain ⟨rfl, rfl⟩ := trodVars_none hV
  obtain ⟨f0, f1, hu, ho, ht0, ht1⟩ := point_fields
  obtain ⟨A, n, c, l, rfl, hp, hAn⟩ := open_points Try.underlying40 hu ho (by kernel_rfl) ht0 ht1 Try.underlying3 (hval 0 40 v0 rfl rfl) h0
  obtain ⟨l1, hl1, rfl⟩ := open_ints_fields (fs := Try.prog.fieldsOf 57) (ti := 3) (by kernel_rfl) (by kernel_rfl) (by kernel_rfl) point_field Try.underlying3 (hval 1 57 v1 rfl rfl) h1
  obtain ⟨x, y, rfl⟩ := two_of (hl1.trans (by kernel_rfl))
  refine (lawPlaces_any A n c l x y W hp hAn).mono fun e W' ⟨hb, he⟩ => ?_
  subst he
  exact ⟨_, rfl, law_post (tb := 4) Try.laidOut (by kernel_rfl) (by kernel_rfl) Try.underlying4 rfl hW' rfl rfl rfl hb⟩

theorem places_holds : Rows.BuildingPlacesSaid :=
  OpenClaim.holds_of_wide 6 Try.f6 rfl rfl rfl rfl rfl rfl rfl ⟨rfl, rfl, rfl, rfl, rfl⟩ rfl rfl rfl rfl rfl (by kernel_rfl) Try.func6 (by kernel_rfl)
    (of_decide_eq_true (by kernel_rfl)) (by unfold Func.isWrapper; first | (rw [if_pos (by decide +kernel)]; kernel_rfl) | (rw [if_neg (by decide +kernel)]; exact ⟨rfl, rfl⟩))
    (fun os started H enc _ => places_lifted os started H enc)

end Go.Proofs.Ytbfbjpnmgcpjlaa
