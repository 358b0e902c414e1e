/- Chapter 8, walks: areTooMany. -/
import Derived.Test.YtmcefodfppdajaaShelf8
namespace Go.Proofs.Ytmcefodfppdajaa
open Go.RowKit Go.Maps

/-- More than a stock in normal form can have. -/
def Many (c : Sh → Int) : Prop := (∃ k, shOk k ∧ 1000000 < c k) ∨ ∃ m, Keys shOk (nz c) m ∧ 200 < m
noncomputable def manyB (c : Sh → Int) : Bool := @decide (Many c) (Classical.propDecidable _)
theorem manyB_iff {c : Sh → Int} : manyB c = true ↔ Many c := by unfold manyB; simp
theorem keys_one {α : Type} {Ok : α → Prop} {f : α → Option Int} {m m' : Nat} (h : Keys Ok f m) (h' : Keys Ok f m') : m = m' := by
  obtain ⟨ks, h1, h2, rfl⟩ := h
  obtain ⟨ks', h1', h2', rfl⟩ := h'
  exact ((List.perm_ext_iff_of_nodup h1 h1').2 fun x => (h2 x).trans (h2' x).symm).length_eq
theorem manyB_over {c : Sh → Int} {k : Sh} (hk : shOk k) (h : 1000000 < c k) : manyB c = true := manyB_iff.2 (.inl ⟨k, hk, h⟩)
theorem manyB_keys {c : Sh → Int} {m : Nat} (h : Keys shOk (nz c) m) (ha : ∀ k, shOk k → (nz c k).isSome = true → ¬ 1000000 < c k) : manyB c = decide ((200 : Int) < (m : Int)) := by
  cases hm : decide ((200 : Int) < (m : Int)) with
  | true => exact manyB_iff.2 (.inr ⟨m, h, by have := of_decide_eq_true hm; omega⟩)
  | false =>
    rw [← Bool.not_eq_true, manyB_iff]
    rintro (⟨k, hk, hc⟩ | ⟨m', h', hc⟩)
    · exact ha k hk ((nz_some c k).2 (by omega)) hc
    · have := keys_one h h'
      have := of_decide_eq_false hm
      omega
set_option maxRecDepth 100000 in
set_option maxHeartbeats 8000000 in
theorem areTooMany_any (b n : Nat) (c : Sh → Int) (w : World) (h : ShM w b n c) :
    Calls Try.prog 54 #[.map (some b)] w fun e w' => Below w.heap.size w w' ∧ e = .returned (.bool (manyB c)) := by
  have hlt := h.lt
  have H0 := Lib.hid h
  obtain ⟨R, hR⟩ : ∃ R, manyB c = R := ⟨_, rfl⟩
  have HR := Lib.hid hR
  rw [hR]
  clear h hR
  go_enter Try.func54, Try.ntmps54
  go_wp2_with (at_range; refine wpList_range_i rfl _ rfl (sh_keys w) Try.underlying110 rfl H0.out rfl ?_; intro w2 cnt hrg hm2 _ hg2 hs2; have HR2 := Lib.hid hrg; have HM2 := Lib.hid hm2; have HB2 : Hid (Below w.heap.size w w2) := Lib.hid (Below.grown_ (Below.refl _ _) hg2 (Nat.le_refl _) (fun q hq => by cases hq)); clear hrg hm2 hg2)
  go_frame
  go_loopw [4] (fun _ wr => ∃ (cnt : Nat) (lf : Sh → Bool), Hid (IRng wr Try.prog 114 3 shV shOk b w.heap.size n (nz c) lf cnt) ∧ Hid (ShM wr b n c) ∧ Hid (∀ k, shOk k → (nz c k).isSome = true → lf k = false → ¬ 1000000 < c k) ∧ Hid (Below w.heap.size w wr)) (fun _ wr => wr.rangeLeft b w.heap.size)
  case atStart => exact ⟨cnt, _, HR2, HM2, Lib.hid (fun k _ h1 h2 => by rw [h1] at h2; cases h2), HB2⟩
  case round =>
    obtain ⟨cnt, lf, HG, HM, HA, HB⟩ := hrel
    have orr := HG.out.lt.1
    go_wp2_with (first | (at_next; refine wpList_next_i rfl _ rfl (sh_keys w) Try.underlying3 rfl HG.out ?_ ?_; rotate_left; intro x cc w3 cnt3 hx hlx hfx hrg3 hlt3 hg3 hs3 hen; have HR3 := Lib.hid hrg3; have HM3 : Hid (ShM w3 b n c) := Lib.hid (HM.out.kept hg3 (by simp; omega)); have HB3 : Hid (Below w.heap.size w w3) := Lib.hid (Below.grown_ HB.out hg3 HB.out.size (fun q hq => by cases hq; omega)); have HX := Lib.hid hx; have HF := Lib.hid hfx; have HL := Lib.hid (And.intro hrg3.left_eq hlt3); clear hrg3 hg3 hx hlx hfx hlt3 hs3; by_cases hbig : 1000000 < cc; rotate_left; rotate_left; intro hdn; have HE := Lib.hid hdn; clear hdn; rotate_left) | (at_len; refine wpList_len_i rfl _ rfl Try.underlying110 rfl HM.out ?_; intro m hkm hml; have HKM := Lib.hid hkm; clear hkm))
    · go_ret
      refine ⟨HB3.out, ret_bool ?_⟩
      rw [← HR.out]
      have hf := HF.out
      unfold nz at hf
      split at hf
      · cases hf
      · cases hf
        exact (manyB_over HX.out hbig).symm
    · go_roundw
      case rel =>
        refine ⟨cnt3, _, HR3, HM3, Lib.hid (fun k hk h1 h2 => ?_), HB3⟩
        by_cases hkx : k = x
        · subst hkx
          have hf := HF.out
          unfold nz at hf
          split at hf
          · cases hf
          · cases hf
            exact hbig
        · rw [decide_eq_false hkx] at h2
          exact Int.not_lt.2 (Int.not_lt.1 (HA.out k hk h1 (by simpa using h2)))
      case measure => rw [HL.out.1, HG.out.left_eq]; exact HL.out.2
    · go_ret
      refine ⟨HB.out, ret_bool ?_⟩
      rw [← HR.out]
      exact (manyB_keys HKM.out fun k hk h1 => Int.not_lt.2 (HA.out k hk h1 (HE.out k hk))).symm

end Go.Proofs.Ytmcefodfppdajaa
