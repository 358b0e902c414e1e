/- Walks: slices.SortFunc with falling, over a row that the call owns. -/
import Derived.Test.YtkcbfkflkepfeaaClosing
import Derived.Test.YtkcbfkflkepfeaaShelfB
import Derived.Sort.OwnSortedInts
namespace Go.Proofs.Ytkcbfkflkepfeaa
open Go.RowKit

def fallC (a b : Int) : Int := Lib.compareInt b a
theorem fallC_lt (a b : Int) : ltOf fallC a b = decide (b < a) := by
  unfold ltOf fallC Lib.compareInt
  rcases Int.lt_trichotomy b a with h | h | h
  · simp [h]
  · subst h; simp
  · have h1 : ¬ b < a := by omega
    simp [h, h1]
theorem fallC_swo : Sort.SWO (ltOf fallC) := by
  refine ⟨fun x => ?_, fun x y z h1 h2 => ?_, fun x y z h1 h2 => ?_⟩ <;> simp only [fallC_lt, decide_eq_true_eq, decide_eq_false_iff_not] at * <;> omega

theorem sort_any {w : World} {base n : Nat} {v : Value} {l : List Int} (h : w.ownsRow base 3 1 v n (i64s l)) (hn : n ≤ 1000000) :
    Calls Try.prog 58 #[v, .func (.func 59) #[] #[]] w fun e w' => e = .returned (.tuple #[]) ∧ ∃ l' : List Int, l.Perm l' ∧ (l'.Pairwise fun a b => b ≤ a) ∧ w'.ownsRow base 3 1 v n (i64s l') ∧ w.grownBy w' v.ownBlock := by
  have hl : l.length = n := by have := h.1; rw [i64s_length] at this; omega
  rcases h.2 with ⟨rfl, rfl⟩ | ⟨g, cap, cur, rfl, hbg, hh, hnc, hm, hs, hx⟩
  · refine (Try.slices_SortFunc_none (α := Int) none 0 _ w).mono ?_
    rintro e w' ⟨rfl, rfl⟩
    obtain rfl : l = [] := List.eq_nil_of_length_eq_zero hl
    exact ⟨rfl, [], List.Perm.refl _, List.Pairwise.nil, h, ⟨rfl, rfl, rfl, Nat.le_refl _, fun _ _ _ => rfl⟩⟩
  · have hg : g < w.heap.size := (Array.getElem?_eq_some_iff.1 hh).1
    have ht : cur.toList.take l.length = l.map (Value.int .i64) := by rw [hl, ← Nat.mul_one n]; exact hx
    have e1 : (Value.slice (some ⟨g, 0, none⟩) n cap) = .slice (some ⟨g, 0, none⟩) l.toArray.size cap := by simp [hl]
    rw [e1]
    refine (Try.slices_SortFunc_total (α := Int) (Value.int .i64) (fun _ => rfl) fallC fallC_swo 59 #[] g 0 cap l.toArray w (enters_of Try.func59 (by kernel_rfl) rfl) ?_ (holds_of_blockI hh ht) hg (by simp; omega) ?_).mono ?_
    · intro m os dk _ x y
      refine (falling_any x y (fallC x y) _ rfl).mono ?_
      rintro e w' ⟨rfl, rfl⟩
      refine ⟨rfl, 0, #[], ?_⟩
      rw [Sort.grow_empty]
      rfl
    · intro x y h1 h2
      simp only [fallC_lt, decide_eq_false_iff_not] at h1 h2
      omega
    · rintro e w' ⟨rfl, q, os, rfl⟩
      have hp := List.mergeSort_perm l (fun x y => !ltOf fallC y x)
      have hlen := hp.length_eq
      refine ⟨rfl, l.mergeSort (fun x y => !ltOf fallC y x), hp.symm, ?_, ?_, ?_⟩
      · have := List.pairwise_mergeSort (le := fun x y => !ltOf fallC y x) (fun a b c h1 h2 => ?_) (fun a b => ?_) l
        · refine this.imp ?_
          intro a b hab
          simp only [fallC_lt, Bool.not_eq_true', decide_eq_false_iff_not] at hab
          omega
        · simp only [fallC_lt, Bool.not_eq_true', decide_eq_false_iff_not] at *
          omega
        · simp only [fallC_lt, Bool.or_eq_true, Bool.not_eq_true', decide_eq_false_iff_not]
          omega
      · have := ownsRow_sortedI (w := w) (n := q) (os := os) (e := 3) (ts := l.mergeSort (fun x y => !ltOf fallC y x)) (ss := l) hlen hbg hh (by omega) hm hs
        rw [← e1]
        rw [hl] at this
        exact this
      · exact grownBy_sortedI (w := w) (g := g) (n := q) (os := os) _

end Go.Proofs.Ytkcbfkflkepfeaa
