/- The order of fractions: signs. -/
import Derived.Test.YtgfbanlefkajhaaGreatQuoR
import Derived.Test.YtgfbanlefkajhaaGreatFloorR
namespace Go.Proofs.YtgfbanlefkajhaaGreat
open Go.RowKit

theorem cmpQ_lt {x y : Rat} (h : x < y) : cmpQ x y = -1 := by unfold cmpQ; rw [if_pos h]
theorem cmpQ_eq {x y : Rat} (h : x = y) : cmpQ x y = 0 := by unfold cmpQ; rw [if_neg (by grind), if_pos h]
theorem cmpQ_gt {x y : Rat} (h : y < x) : cmpQ x y = 1 := by unfold cmpQ; rw [if_neg (by grind), if_neg (by grind)]
theorem rat_tri (x y : Rat) : x < y ∨ x = y ∨ y < x := by grind
theorem cmpQ_sub (x y : Rat) : cmpQ (x - y) 0 = cmpQ x y := by
  rcases rat_tri x y with h | h | h
  · rw [cmpQ_lt h, cmpQ_lt (by grind)]
  · rw [cmpQ_eq h, cmpQ_eq (by grind)]
  · rw [cmpQ_gt h, cmpQ_gt (by grind)]
theorem cmpQ_mul (x y : Rat) : cmpQ (x * y) 0 = cmpQ x 0 * cmpQ y 0 := by
  rcases rat_tri x 0 with h | h | h <;> rcases rat_tri y 0 with g | g | g
  · have := Rat.mul_pos (show 0 < -x by grind) (show 0 < -y by grind)
    rw [cmpQ_lt h, cmpQ_lt g, cmpQ_gt (by grind)]; rfl
  · rw [cmpQ_lt h, cmpQ_eq g, cmpQ_eq (by rw [g, Rat.mul_zero])]; rfl
  · have := Rat.mul_pos (show 0 < -x by grind) g
    rw [cmpQ_lt h, cmpQ_gt g, cmpQ_lt (by grind)]; rfl
  · rw [cmpQ_eq h, cmpQ_lt g, cmpQ_eq (by rw [h, Rat.zero_mul])]; rfl
  · rw [cmpQ_eq h, cmpQ_eq g, cmpQ_eq (by rw [h, Rat.zero_mul])]; rfl
  · rw [cmpQ_eq h, cmpQ_gt g, cmpQ_eq (by rw [h, Rat.zero_mul])]; rfl
  · have := Rat.mul_pos h (show 0 < -y by grind)
    rw [cmpQ_gt h, cmpQ_lt g, cmpQ_lt (by grind)]; rfl
  · rw [cmpQ_gt h, cmpQ_eq g, cmpQ_eq (by rw [g, Rat.mul_zero])]; rfl
  · rw [cmpQ_gt h, cmpQ_gt g, cmpQ_gt (Rat.mul_pos h g)]; rfl
theorem cmpQ_small (x y : Rat) : cmpQ x y = -1 ∨ cmpQ x y = 0 ∨ cmpQ x y = 1 := by
  rcases rat_tri x y with h | h | h
  · exact .inl (cmpQ_lt h)
  · exact .inr (.inl (cmpQ_eq h))
  · exact .inr (.inr (cmpQ_gt h))
theorem wrap_mul (x y : Rat) : IntKind.i64.wrap (cmpQ x 0 * cmpQ y 0) = cmpQ x 0 * cmpQ y 0 := by
  rcases cmpQ_small x 0 with h | h | h <;> rcases cmpQ_small y 0 with g | g | g <;> rw [h, g] <;> rfl
theorem RatH.ofInt {w w' : World} {s : Bool} {A : Option Addr} {n c K : Nat} {F : Int} {f : Bool} (h : IntH w s A n c F K f) (hb : Below w.heap.size w w') : RatH w' s A n c false none 0 0 (F : Rat) K false := by
  obtain ⟨l, g, hF, -⟩ := h.lim
  refine ⟨⟨l, [], fun u hu => (g w' hb).below hu (Nat.le_refl _) hu.size, fun u _ => Lim.nil_ _ _, ?_, fun h => by cases h⟩, h.len, Nat.zero_le _⟩
  have e : Rat.divInt F 1 = (F : Rat) := Rat.ext (by rw [Rat.num_divInt]; simp) (by rw [Rat.den_divInt]; simp)
  rw [← hF, ← e]
  unfold frac
  simp [sg, val]
end Go.Proofs.YtgfbanlefkajhaaGreat
