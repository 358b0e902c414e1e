/- Fractions as Lean's Rat. -/
import Derived.Test.YtgfbanlefkajhaaGreatTerms
namespace Go.Proofs.YtgfbanlefkajhaaGreat
open Go.RowKit

theorem gcd_sg (s t : Bool) (a b : Nat) : (sg t b).gcd (sg s a) = Nat.gcd b a := by
  cases s <;> cases t <;> simp [sg, Int.gcd]
theorem sg_div (s : Bool) {a g : Nat} (h : g ∣ a) : sg s a / (g : Int) = sg s (a / g) := by
  cases s
  · rw [sg_false, sg_false, Int.natCast_ediv]
  · rw [sg_true, sg_true, Int.neg_ediv_of_dvd (Int.natCast_dvd_natCast.mpr h), Int.natCast_ediv]
theorem sign_sg (s t : Bool) {a b : Nat} (hb : 0 < b) : (sg t b).sign * sg s a = sg (s != t) a := by
  have h : Int.sign (b : Int) = 1 := Int.sign_eq_one_of_pos (by omega)
  cases s <;> cases t <;> simp [sg, h]
theorem rat_num (s t : Bool) (a b : Nat) (hb : 0 < b) : (Rat.divInt (sg s a) (sg t b)).num = sg (s != t) (a / Nat.gcd a b) := by
  rw [Rat.num_divInt, gcd_sg, Nat.gcd_comm, sign_sg s t hb, sg_div _ (Nat.gcd_dvd_left _ _)]
theorem rat_den (s t : Bool) (a b : Nat) (hb : 0 < b) : (Rat.divInt (sg s a) (sg t b)).den = b / Nat.gcd a b := by
  rw [Rat.den_divInt, gcd_sg, Nat.gcd_comm]
  have h0 : sg t b ≠ 0 := by cases t <;> simp [sg] <;> omega
  rw [if_neg h0]
  have : (sg t b).natAbs = b := by cases t <;> simp [sg]
  rw [this]

/-- v is the fraction x in normal form. -/
def RatAt (w : World) (B : Nat) (v : Value) (x : Rat) : Prop := PairAt w B v x.num (x.den : Int)
theorem RatAt.below {w w' : World} {B B' : Nat} {v : Value} {x : Rat} (h : RatAt w B v x) {D : Nat} (hb : Below D w w') (hD : B ≤ D) (hB : B ≤ B') : RatAt w' B' v x := PairAt.below h hb hD hB
theorem RatAt.mono {w : World} {B B' : Nat} {v : Value} {x : Rat} (h : RatAt w B v x) (hB : B ≤ B') : RatAt w B' v x := h.below (Below.refl B w) (Nat.le_refl _) hB
/-- A fraction is returned. -/
def RatR (x : Rat) (w : World) (e : Ending) (w' : World) : Prop := Below w.heap.size w w' ∧ ∃ v, e = .returned v ∧ RatAt w' w'.heap.size v x

theorem fraction_num (u v : Value) (p q : Int) (w : World) (hu : NumAt w w.heap.size u p) (hv : NumAt w w.heap.size v q) (hp : p.natAbs < W 536870912) (hq : q.natAbs < W 536870912) (h0 : 0 < q) :
    Calls Tryz.prog 58 #[u, v] w (RatR (Rat.divInt p q) w) := by
  obtain ⟨s1, A1, n1, c1, l1, rfl, L1, N1, rfl⟩ := hu
  obtain ⟨s2, A2, n2, c2, l2, rfl, L2, N2, rfl⟩ := hv
  have e1 : (sg s1 (val l1)).natAbs = val l1 := by cases s1 <;> simp [sg]
  have e2 : (sg s2 (val l2)).natAbs = val l2 := by cases s2 <;> simp [sg]
  rw [e1] at hp
  rw [e2] at hq
  have m1 := norm_len_le N1 hp
  have m2 := norm_len_le N2 hq
  rw [L1.len] at m1
  rw [L2.len] at m2
  have h3 : 0 < val l2 := by
    rcases Nat.eq_zero_or_pos (val l2) with h | h
    · rw [h] at h0; cases s2 <;> simp [sg] at h0
    · exact h
  refine (fraction_any s1 s2 A1 A2 n1 c1 n2 c2 l1 l2 w L1 L2 N1 N2 m1 m2 h3).mono ?_
  rintro e w' ⟨hb, r, rfl, hr⟩
  refine ⟨hb, r, rfl, ?_⟩
  unfold RatAt
  rw [rat_num _ _ _ _ h3, rat_den _ _ _ _ h3]
  exact hr

end Go.Proofs.YtgfbanlefkajhaaGreat
