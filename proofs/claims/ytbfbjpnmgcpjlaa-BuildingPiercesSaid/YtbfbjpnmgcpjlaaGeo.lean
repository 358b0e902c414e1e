/- A side that is parallel to an axis: its distance from a place in two ways. No program is named here. -/
import Derived.Test.YtbfbjpnmgcpjlaaDistance
namespace Go.Proofs.Ytbfbjpnmgcpjlaa
open Go.RowKit

/-- How far a number is from a range. -/
def outI (n a b : Int) : Int := max 0 (max (min a b - n) (n - max a b))
def betw (n a b : Int) : Bool := decide (min a b ≤ n ∧ n ≤ max a b)
theorem outI_bd (n a b : Int) : 0 ≤ outI n a b := by unfold outI; omega
theorem outI_zero {n a b : Int} : outI n a b = 0 ↔ betw n a b = true := by unfold outI betw; rw [decide_eq_true_eq]; omega
theorem sq_of {x y : Int} (h : x = y ∨ x = -y) : x * x = y * y := by
  rcases h with rfl | rfl
  · rfl
  · rw [Int.neg_mul_neg]

theorem distS_out {a b u v x y : Int} (h : dirP (a, b) (u, v) ≠ -1) : distS (sideOf (a, b) (u, v)) x y = outI x a u * outI x a u + outI y b v * outI y b v := by
  have hd : dirP (a, b) (u, v) = if b = v ∧ a < u then 0 else if a = u ∧ b < v then 1 else if b = v ∧ u < a then 2 else if a = u ∧ v < b then 3 else -1 := rfl
  unfold distS
  by_cases h0 : b = v ∧ a < u
  · have e : dirP (a, b) (u, v) = 0 := by rw [hd, if_pos h0]
    have m : measP (sideOf (a, b) (u, v)) x y = (x - a, y - b) := by unfold measP sideOf; simp only [e]; rfl
    rw [m]
    have l : (sideOf (a, b) (u, v)).len = u - a := by unfold sideOf gap; simp only; omega
    rw [l]
    simp only
    have e1 : max (-(x - a)) (max (x - a - (u - a)) 0) = outI x a u := by unfold outI; omega
    have e2 : (y - b) * (y - b) = outI y b v * outI y b v := sq_of (by unfold outI; omega)
    rw [e1, e2]
  · by_cases h1 : a = u ∧ b < v
    · have e : dirP (a, b) (u, v) = 1 := by rw [hd, if_neg h0, if_pos h1]
      have m : measP (sideOf (a, b) (u, v)) x y = (y - b, -(x - a)) := by unfold measP sideOf; simp only [e]; rfl
      rw [m]
      have l : (sideOf (a, b) (u, v)).len = v - b := by unfold sideOf gap; simp only; omega
      rw [l]
      simp only
      have e1 : max (-(y - b)) (max (y - b - (v - b)) 0) = outI y b v := by unfold outI; omega
      have e2 : (-(x - a)) * (-(x - a)) = outI x a u * outI x a u := sq_of (by unfold outI; omega)
      rw [e1, e2, Int.add_comm]
    · by_cases h2 : b = v ∧ u < a
      · have e : dirP (a, b) (u, v) = 2 := by rw [hd, if_neg h0, if_neg h1, if_pos h2]
        have m : measP (sideOf (a, b) (u, v)) x y = (-(x - a), -(y - b)) := by unfold measP sideOf; simp only [e]; rfl
        rw [m]
        have l : (sideOf (a, b) (u, v)).len = a - u := by unfold sideOf gap; simp only; omega
        rw [l]
        simp only
        have e1 : max (-(-(x - a))) (max (-(x - a) - (a - u)) 0) = outI x a u := by unfold outI; omega
        have e2 : (-(y - b)) * (-(y - b)) = outI y b v * outI y b v := sq_of (by unfold outI; omega)
        rw [e1, e2]
      · by_cases h3 : a = u ∧ v < b
        · have e : dirP (a, b) (u, v) = 3 := by rw [hd, if_neg h0, if_neg h1, if_neg h2, if_pos h3]
          have m : measP (sideOf (a, b) (u, v)) x y = (-(y - b), x - a) := by unfold measP sideOf; simp only [e]; rfl
          rw [m]
          have l : (sideOf (a, b) (u, v)).len = b - v := by unfold sideOf gap; simp only; omega
          rw [l]
          simp only
          have e1 : max (-(-(y - b))) (max (-(y - b) - (b - v)) 0) = outI y b v := by unfold outI; omega
          have e2 : (x - a) * (x - a) = outI x a u * outI x a u := sq_of (by unfold outI; omega)
          rw [e1, e2, Int.add_comm]
        · exact absurd (by rw [hd, if_neg h0, if_neg h1, if_neg h2, if_neg h3]) h

theorem sq_zero {x y : Int} (hx : 0 ≤ x) (hy : 0 ≤ y) : x * x + y * y = 0 ↔ x = 0 ∧ y = 0 := by
  constructor
  · intro h
    have a := Int.mul_nonneg hx hx
    have b := Int.mul_nonneg hy hy
    have ha : x * x = 0 := by omega
    have hb : y * y = 0 := by omega
    exact ⟨(Int.mul_eq_zero.1 ha).elim id id, (Int.mul_eq_zero.1 hb).elim id id⟩
  · rintro ⟨rfl, rfl⟩; rfl
theorem distS_zero {a b u v x y : Int} (h : dirP (a, b) (u, v) ≠ -1) : distS (sideOf (a, b) (u, v)) x y = 0 ↔ (betw x a u && betw y b v) = true := by
  rw [distS_out h, sq_zero (outI_bd _ _ _) (outI_bd _ _ _), outI_zero, outI_zero, Bool.and_eq_true]
/-- The reference's test of a crossing. -/
theorem crB_ref {a b u v x y : Int} (h : dirP (a, b) (u, v) ≠ -1) : crB (sideOf (a, b) (u, v)) x y = decide (a = u ∧ x < a ∧ min b v ≤ y ∧ y < max b v) := by
  have hd : dirP (a, b) (u, v) = if b = v ∧ a < u then 0 else if a = u ∧ b < v then 1 else if b = v ∧ u < a then 2 else if a = u ∧ v < b then 3 else -1 := rfl
  have : b = v ∨ a = u := by
    rw [hd] at h
    repeat' split at h
    all_goals first | omega | exact absurd rfl h
  show decide (min b v ≤ y ∧ y < max b v ∧ x < a) = _
  rw [decide_eq_decide]
  omega
/-- In a valid outline each side has a direction. -/
theorem alt_dir {l : List (Int × Int)} (h : altS (sides l) = true) {k : Nat} (hk : k < l.length) : dirP (pt l k) (pt l (nx l k)) ≠ -1 := by
  unfold altS at h
  rw [List.all_eq_true] at h
  have := h k (by rw [sides_length]; simpa using hk)
  unfold badS at this
  rw [sides_sd hk] at this
  simp only [Bool.not_eq_true', Bool.or_eq_false_iff] at this
  have h1 := this.1
  intro e
  rw [show (sideK l k).dir = dirP (pt l k) (pt l (nx l k)) from rfl, e] at h1
  simp at h1

end Go.Proofs.Ytbfbjpnmgcpjlaa
