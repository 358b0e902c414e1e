/- Walks: lengthsError and its predicate. -/
import Derived.Test.YtkcbfkflkepfeaaOwnB
import Derived.Test.YtkcbfkflkepfeaaShelf
import Derived.LoopN
namespace Go.Proofs.Ytkcbfkflkepfeaa
open Go.RowKit

theorem bang_of {l : List Int} {j : Nat} (hj : j < l.length) : l[j]? = some l[j]! := by
  rw [List.getElem?_eq_getElem hj, List.getElem!_eq_getElem?_getD, List.getElem?_eq_getElem hj]
  rfl
/-- The predicate of a range. -/
theorem badLen_pred (w : World) : PredAt Try.prog 73 #[] (fun z : Int => .int .i64 z) (fun z => !ok1 z) w := fun W z _ => by
  unfold FnGives
  by_cases h1 : z < 1
  · have e := ok1_false (z := z) (.inl h1)
    go_enter Try.func73, Try.ntmps73
    go_wp2
    go_ret
    exact ⟨by simp [e], 0, rfl⟩
  · by_cases h2 : 10000 < z
    · have e := ok1_false (z := z) (.inr h2)
      go_enter Try.func73, Try.ntmps73
      go_wp2
      go_ret
      exact ⟨by simp, 0, rfl⟩
    · have e : ok1 z = true := ok1_iff.2 ⟨by omega, by omega⟩
      go_enter Try.func73, Try.ntmps73
      go_wp2
      go_ret
      exact ⟨by simp, 0, rfl⟩
theorem any_bad (l : List Int) : (l.any fun z => !ok1 z) = !(l.all ok1) := by
  induction l with
  | nil => rfl
  | cons a l ih => simp [ih]
theorem containsBad_any (A : Option Addr) (n c B : Nat) (l : List Int) (w : World) (h : Ints w B A n c l) :
    Calls Try.prog 72 #[.slice A n c, .func (.func 73) #[] #[]] w fun e w' => Below w.heap.size w w' ∧ e = .returned (.bool (!(l.all ok1))) := by
  have hlen := h.nums.len
  rcases Nat.eq_zero_or_pos n with h0 | h0
  · subst h0
    obtain rfl : l = [] := List.eq_nil_of_length_eq_zero hlen
    refine (Try.slices_ContainsFunc_empty (α := Int) A c _ w).mono ?_
    rintro e w' ⟨rfl, rfl⟩
    exact ⟨Below.refl _ _, rfl⟩
  · obtain ⟨b, o, rfl, hb, hc⟩ := h.nums.sl.cells h0
    refine (Try.slices_ContainsFunc (fun z : Int => .int .i64 z) (fun z => !ok1 z) _ #[] (enters_of Try.func73 (by kernel_rfl) rfl) b o n c l w (badLen_pred w) (by omega) (by have := h.nums.cap; have := h.nums.max; omega) (fun j hj => hc j _ (by rw [i64s_get?, bang_of hj]; rfl))).mono ?_
    rintro e w' ⟨rfl, q, rfl⟩
    refine ⟨Below.drewN (Below.refl _ _) q, ?_⟩
    rw [List.take_of_length_le (by omega), any_bad]

end Go.Proofs.Ytkcbfkflkepfeaa
