/- The contracts of Floor, Normal and Whole. -/
import Derived.Test.YtgfbanlefkajhaaGreatRatH
namespace Go.Proofs.YtgfbanlefkajhaaGreat
open Go.RowKit

theorem terms_of (a b : Int) : Terms a b (tnum a b) (tden b) := by
  unfold tnum tden Terms
  rcases Int.lt_trichotomy b 0 with h | h | h
  · right; left; rw [if_pos h, if_neg (by omega), if_pos h]; exact ⟨h, rfl, rfl⟩
  · left; subst h; simp
  · right; right; rw [if_neg (by omega), if_neg (by omega), if_neg (by omega)]; exact ⟨h, rfl, rfl⟩
theorem rat_mul0 {p q : Int} {x : Rat} (h : Rat.divInt p q = x) (hq : 0 < q) : x * (q : Rat) = (p : Rat) := by
  rw [← h, Rat.divInt_eq_div]
  exact Rat.div_mul_cancel (by exact_mod_cast (show q ≠ 0 by omega))
theorem floor_fact {p q : Int} {x : Rat} (h : Rat.divInt p q = x) (hq : 0 < q) : ((p / q : Int) : Rat) ≤ x ∧ x < ((p / q : Int) : Rat) + 1 := by
  have e := rat_mul0 h hq
  have q0 : (0 : Rat) < (q : Rat) := by exact_mod_cast hq
  have i1 : p / q * q ≤ p := Int.ediv_mul_le p (by omega)
  have i2 : p < (p / q + 1) * q := Int.lt_ediv_add_one_mul_self p hq
  constructor
  · refine Rat.not_lt.1 fun hlt => ?_
    have hm := (Rat.mul_lt_mul_right q0).2 hlt
    rw [e, ← Rat.intCast_mul] at hm
    have : p < p / q * q := by exact_mod_cast hm
    omega
  · refine (Rat.mul_lt_mul_right q0).1 ?_
    have e2 : ((p / q : Int) : Rat) + 1 = ((p / q + 1 : Int) : Rat) := by rw [Rat.intCast_add]; rfl
    rw [e, e2, ← Rat.intCast_mul]
    exact_mod_cast i2
theorem floorH {w w1 : World} {s1 : Bool} {A1 : Option Addr} {n1 c1 : Nat} {s2 : Bool} {A2 : Option Addr} {n2 c2 : Nat} {x : Rat} {K : Nat} {f : Bool} (h : RatH w1 s1 A1 n1 c1 s2 A2 n2 c2 x K f) (b1 : Below w1.heap.size w1 w) (hK : K ≤ 1000) :
    Calls Tryz.prog 32 #[.agg #[.bool s1, .slice A1 n1 c1, .bool s2, .slice A2 n2 c2]] w fun e w' => ∃ F : Int, (F : Rat) ≤ x ∧ x < (F : Rat) + 1 ∧ MakesInt F (K + 1 + 1 + 1) w e w' := by
  obtain ⟨l1, l2, g1, g2, hx, -⟩ := h.lim
  have L1 := g1 w b1
  have L2 := g2 w b1
  have k1 := h.len1
  have k2 := h.len2
  refine (floor_any s1 s2 A1 A2 n1 c1 n2 c2 l1 l2 w L1 L2 (by omega) (by omega)).mono ?_
  intro e w' hr
  have ht := terms_of (sg s1 (val l1)) (sg s2 (val l2))
  obtain ⟨f1, f2⟩ := ht.frac
  obtain ⟨i1, i2⟩ := floor_fact (f1.trans hx.symm) f2
  have e1 := sg_below (s := s1) L1.bd L1.len (Nat.le_succ_of_le k1)
  have e2 := sg_below (s := s2) L2.bd L2.len (Nat.le_succ_of_le k2)
  obtain ⟨j1, j2⟩ := ht.bounds e1 e2 (Nat.succ_pos K)
  have hd := div_abs (tnum (sg s1 (val l1)) (sg s2 (val l2))) (tden (sg s2 (val l2)))
  have hw1 : W 1 = 4294967296 := by decide
  have hs := W_sum (K1 := K + 1) (K2 := 1) (b := 1) j1 (by omega)
  exact ⟨_, i1, i2, makes_of hr (by have := hs; simp only [Nat.add_assoc] at this ⊢; omega)⟩
theorem normalH {w w1 : World} {s1 : Bool} {A1 : Option Addr} {n1 c1 : Nat} {s2 : Bool} {A2 : Option Addr} {n2 c2 : Nat} {x : Rat} {K : Nat} {f : Bool} (h : RatH w1 s1 A1 n1 c1 s2 A2 n2 c2 x K f) (b1 : Below w1.heap.size w1 w) (hK : K ≤ 1000) :
    Calls Tryz.prog 28 #[.agg #[.bool s1, .slice A1 n1 c1, .bool s2, .slice A2 n2 c2]] w (MakesRat x (K + 1) w) := by
  obtain ⟨l1, l2, g1, g2, hx, -⟩ := h.lim
  have L1 := g1 w b1
  have L2 := g2 w b1
  have k1 := h.len1
  have k2 := h.len2
  refine (normal_any s1 s2 A1 A2 n1 c1 n2 c2 l1 l2 w L1 L2 (by omega) (by omega)).mono ?_
  intro e w' hr
  rw [← hx] at hr
  have ht := terms_of (sg s1 (val l1)) (sg s2 (val l2))
  obtain ⟨f1, f2⟩ := ht.frac
  have e1 := sg_below (s := s1) L1.bd L1.len (Nat.le_succ_of_le k1)
  have e2 := sg_below (s := s2) L2.bd L2.len (Nat.le_succ_of_le k2)
  obtain ⟨j1, j2⟩ := ht.bounds e1 e2 (Nat.succ_pos K)
  have hb := divInt_bd (p := tnum (sg s1 (val l1)) (sg s2 (val l2))) f2
  rw [f1, ← hx] at hb
  exact makesR_of hr (Nat.lt_of_le_of_lt hb.1 j1) (Nat.lt_of_le_of_lt hb.2 j2)
theorem whole0 (w : World) : Calls Tryz.prog 29 #[.int .i64 0] w (MakesRat 0 1 w) := by
  have hw1 : W 1 = 4294967296 := by decide
  refine (whole_any 0 w (by omega) (by omega)).mono ?_
  intro e w' hr
  exact makesR_of hr (by rw [hw1]; decide) (by rw [hw1]; decide)
theorem whole1 (w : World) : Calls Tryz.prog 29 #[.int .i64 1] w (MakesRat 1 1 w) := by
  have hw1 : W 1 = 4294967296 := by decide
  refine (whole_any 1 w (by omega) (by omega)).mono ?_
  intro e w' hr
  exact makesR_of hr (by rw [hw1]; decide) (by rw [hw1]; decide)
/-- Both parts of a fraction in normal form. -/
theorem RatH.parts {w0 : World} {s1 : Bool} {A1 : Option Addr} {n1 c1 : Nat} {s2 : Bool} {A2 : Option Addr} {n2 c2 : Nat} {x : Rat} {K : Nat} (h : RatH w0 s1 A1 n1 c1 s2 A2 n2 c2 x K true) :
    IntH w0 s1 A1 n1 c1 x.num K true ∧ IntH w0 s2 A2 n2 c2 (x.den : Int) K true := by
  obtain ⟨l1, l2, g1, g2, -, hn⟩ := h.lim
  obtain ⟨N1, p1, N2, p2, z1, z2⟩ := hn rfl
  exact ⟨⟨⟨l1, g1, z1, fun _ => ⟨N1, p1⟩⟩, h.len1⟩, ⟨⟨l2, g2, z2, fun _ => ⟨N2, p2⟩⟩, h.len2⟩⟩
end Go.Proofs.YtgfbanlefkajhaaGreat
