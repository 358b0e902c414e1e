/- Shares of a way as pairs of numbers; the two ways to tell whether a line meets a box agree. No program is named here. -/
import Derived.Test.YtbfbjpnmgcpjlaaCells
namespace Go.Proofs.Ytbfbjpnmgcpjlaa
open Go.RowKit

abbrev Fr2 := Int × Int
def lessP (p q : Fr2) : Bool := decide (p.1 * q.2 < q.1 * p.2)
def maxP (f r : Fr2) : Fr2 := if lessP f r = true then r else f
def minP (t s : Fr2) : Fr2 := if lessP s t = true then s else t
/-- The part of a stretch on which a number that goes from a to b lies strictly between lo and hi, a < b. -/
def clipP (s : Fr2 × Fr2) (a b lo hi : Int) : Fr2 × Fr2 := (maxP s.1 (lo - a, b - a), minP s.2 (hi - a, b - a))
def withinP (s : Fr2 × Fr2) (a b lo hi : Int) : Fr2 × Fr2 :=
  if a = b then (if lo < a ∧ a < hi then s else (s.1, s.1)) else if b < a then clipP s (-a) (-b) (-hi) (-lo) else clipP s a b lo hi
def endP (f t : Fr2) : Bool := lessP f t && lessP f (1, 1) && lessP (0, 1) t
def slabP (a b lo hi : Int) : Fr2 × Fr2 × Bool :=
  if a = b then ((-1, 1), (2, 1), decide (lo < a ∧ a < hi)) else if b < a then ((a - hi, a - b), (a - lo, a - b), true) else ((lo - a, b - a), (hi - a, b - a), true)

/-- The share as a number. -/
def vl (p : Fr2) : Rat := (p.1 : Rat) / p.2
theorem lessP_iff {p q : Fr2} (hp : 0 < p.2) (hq : 0 < q.2) : lessP p q = true ↔ vl p < vl q := by
  obtain ⟨a, b⟩ := p
  obtain ⟨c, d⟩ := q
  simp only at hp hq
  unfold lessP vl
  rw [decide_eq_true_eq]
  simp only
  have hb' : (0 : Rat) < b := by exact_mod_cast hp
  have hd' : (0 : Rat) < d := by exact_mod_cast hq
  have e1 : ((a : Rat) / b) * b = a := by grind
  have e2 : ((c : Rat) / d) * d = c := by grind
  have e3 : (a * d < c * b) ↔ ((a : Rat) * d < (c : Rat) * b) := by exact_mod_cast Iff.rfl
  rw [e3]
  generalize (a : Rat) / b = p at *
  generalize (c : Rat) / d = q at *
  have hbd : (0 : Rat) < (b : Rat) * d := Rat.mul_pos hb' hd'
  rw [← e1, ← e2, show p * (b : Rat) * d = p * ((b : Rat) * d) by grind, show q * (d : Rat) * b = q * ((b : Rat) * d) by grind]
  exact Rat.mul_lt_mul_right hbd

theorem maxP_den {f r : Fr2} (hf : 0 < f.2) (hr : 0 < r.2) : 0 < (maxP f r).2 := by unfold maxP; split <;> assumption
theorem minP_den {f r : Fr2} (hf : 0 < f.2) (hr : 0 < r.2) : 0 < (minP f r).2 := by unfold minP; split <;> assumption
theorem maxP_vl {f r : Fr2} (hf : 0 < f.2) (hr : 0 < r.2) : vl (maxP f r) = if vl f < vl r then vl r else vl f := by
  unfold maxP
  by_cases h : lessP f r = true
  · rw [if_pos h, if_pos ((lessP_iff hf hr).1 h)]
  · rw [if_neg h, if_neg (fun k => h ((lessP_iff hf hr).2 k))]
theorem minP_vl {f r : Fr2} (hf : 0 < f.2) (hr : 0 < r.2) : vl (minP f r) = if vl r < vl f then vl r else vl f := by
  unfold minP
  by_cases h : lessP r f = true
  · rw [if_pos h, if_pos ((lessP_iff hr hf).1 h)]
  · rw [if_neg h, if_neg (fun k => h ((lessP_iff hr hf).2 k))]
theorem endP_iff {f t : Fr2} (hf : 0 < f.2) (ht : 0 < t.2) : endP f t = true ↔ vl f < vl t ∧ vl f < 1 ∧ 0 < vl t := by
  unfold endP
  rw [Bool.and_eq_true, Bool.and_eq_true, lessP_iff hf ht, lessP_iff hf (by decide), lessP_iff (by decide) ht]
  rw [show vl (1, 1) = 1 by unfold vl; grind, show vl (0, 1) = 0 by unfold vl; grind, and_assoc]

theorem slabP_den (a b lo hi : Int) : 0 < (slabP a b lo hi).1.2 ∧ 0 < (slabP a b lo hi).2.1.2 := by
  unfold slabP
  split
  · exact ⟨(by decide : (0 : Int) < 1), (by decide : (0 : Int) < 1)⟩
  · split
    · exact ⟨by simp only; omega, by simp only; omega⟩
    · exact ⟨by simp only; omega, by simp only; omega⟩

/-- What the one way knows of the other behind some axes. -/
structure Tied (s : Fr2 × Fr2) (f t : Fr2) (ok : Bool) : Prop where
  d1 : 0 < s.1.2
  d2 : 0 < s.2.2
  e1 : 0 < f.2
  e2 : 0 < t.2
  yes : ok = true → vl s.1 = (if vl f < -1 then -1 else vl f) ∧ vl s.2 = (if 2 < vl t then 2 else vl t)
  no : ok = false → ¬ vl s.1 < vl s.2

theorem vl_m1 : vl (-1, 1) = -1 := by unfold vl; grind
theorem vl_2 : vl (2, 1) = 2 := by unfold vl; grind

theorem Tied.step {s : Fr2 × Fr2} {f t : Fr2} {ok : Bool} (h : Tied s f t ok) (a b lo hi : Int) :
    Tied (withinP s a b lo hi) (maxP f (slabP a b lo hi).1) (minP t (slabP a b lo hi).2.1) (ok && (slabP a b lo hi).2.2) := by
  obtain ⟨g1, g2⟩ := slabP_den a b lo hi
  obtain ⟨d1, d2, e1, e2, yes, no⟩ := h
  have m1 := maxP_vl e1 g1
  have m2 := minP_vl e2 g2
  by_cases hab : a = b
  · have hs : slabP a b lo hi = ((-1, 1), (2, 1), decide (lo < a ∧ a < hi)) := by unfold slabP; rw [if_pos hab]
    by_cases ho : lo < a ∧ a < hi
    · have hw : withinP s a b lo hi = s := by unfold withinP; rw [if_pos hab, if_pos ho]
      rw [hs] at m1 m2 g1 g2 ⊢
      rw [hw]
      refine ⟨d1, d2, maxP_den e1 g1, minP_den e2 g2, fun hk => ?_, fun hk => no (by simpa [ho] using hk)⟩
      have := yes (by simpa [ho] using hk)
      rw [vl_m1] at m1
      rw [vl_2] at m2
      simp only at m1 m2 ⊢
      rw [m1, m2]
      grind
    · have hw : withinP s a b lo hi = (s.1, s.1) := by unfold withinP; rw [if_pos hab, if_neg ho]
      rw [hs] at m1 m2 g1 g2 ⊢
      rw [hw]
      refine ⟨d1, d1, maxP_den e1 g1, minP_den e2 g2, fun hk => by simp [ho] at hk, fun _ => by simp⟩
  · have key : ∀ p q : Fr2, 0 < p.2 → 0 < q.2 → slabP a b lo hi = (p, q, true) → withinP s a b lo hi = (maxP s.1 p, minP s.2 q) →
        Tied (withinP s a b lo hi) (maxP f (slabP a b lo hi).1) (minP t (slabP a b lo hi).2.1) (ok && (slabP a b lo hi).2.2) := by
      intro p q hp hq hs hw
      rw [hs] at m1 m2 ⊢
      rw [hw]
      have n1 := maxP_vl d1 hp
      have n2 := minP_vl d2 hq
      refine ⟨maxP_den d1 hp, minP_den d2 hq, maxP_den e1 hp, minP_den e2 hq, fun hk => ?_, fun hk => ?_⟩
      · have := yes (by simpa using hk)
        simp only at m1 m2 ⊢
        rw [m1, m2, n1, n2]
        grind
      · have := no (by simpa using hk)
        simp only
        rw [n1, n2]
        grind
    by_cases hba : b < a
    · refine key (a - hi, a - b) (a - lo, a - b) (by simp only; omega) (by simp only; omega) (by unfold slabP; rw [if_neg hab, if_pos hba]) ?_
      unfold withinP clipP
      rw [if_neg hab, if_pos hba, show -hi - -a = a - hi by omega, show -b - -a = a - b by omega, show -lo - -a = a - lo by omega]
    · refine key (lo - a, b - a) (hi - a, b - a) (by simp only; omega) (by simp only; omega) (by unfold slabP; rw [if_neg hab, if_neg hba]) ?_
      unfold withinP clipP
      rw [if_neg hab, if_neg hba]

theorem Tied.first (a b lo hi : Int) : Tied (withinP ((-1, 1), (2, 1)) a b lo hi) (slabP a b lo hi).1 (slabP a b lo hi).2.1 (slabP a b lo hi).2.2 := by
  obtain ⟨g1, g2⟩ := slabP_den a b lo hi
  by_cases hab : a = b
  · have hs : slabP a b lo hi = ((-1, 1), (2, 1), decide (lo < a ∧ a < hi)) := by unfold slabP; rw [if_pos hab]
    by_cases ho : lo < a ∧ a < hi
    · have hw : withinP ((-1, 1), (2, 1)) a b lo hi = ((-1, 1), (2, 1)) := by unfold withinP; rw [if_pos hab, if_pos ho]
      rw [hs, hw]
      exact ⟨(by decide : (0 : Int) < 1), (by decide : (0 : Int) < 1), (by decide : (0 : Int) < 1), (by decide : (0 : Int) < 1), fun _ => by simp only [vl_m1, vl_2]; grind, fun hk => by simp [ho] at hk⟩
    · have hw : withinP ((-1, 1), (2, 1)) a b lo hi = ((-1, 1), (-1, 1)) := by unfold withinP; rw [if_pos hab, if_neg ho]
      rw [hs, hw]
      exact ⟨(by decide : (0 : Int) < 1), (by decide : (0 : Int) < 1), (by decide : (0 : Int) < 1), (by decide : (0 : Int) < 1), fun hk => by simp [ho] at hk, fun _ => by simp⟩
  · have key : ∀ p q : Fr2, 0 < p.2 → 0 < q.2 → slabP a b lo hi = (p, q, true) → withinP ((-1, 1), (2, 1)) a b lo hi = (maxP (-1, 1) p, minP (2, 1) q) →
        Tied (withinP ((-1, 1), (2, 1)) a b lo hi) (slabP a b lo hi).1 (slabP a b lo hi).2.1 (slabP a b lo hi).2.2 := by
      intro p q hp hq hs hw
      rw [hs, hw]
      have n1 := maxP_vl (f := (-1, 1)) (by decide) hp
      have n2 := minP_vl (f := (2, 1)) (by decide) hq
      rw [vl_m1] at n1
      rw [vl_2] at n2
      refine ⟨maxP_den (by decide) hp, minP_den (by decide) hq, hp, hq, fun _ => ?_, fun hk => by simp at hk⟩
      simp only
      rw [n1, n2]
      grind
    by_cases hba : b < a
    · refine key (a - hi, a - b) (a - lo, a - b) (by simp only; omega) (by simp only; omega) (by unfold slabP; rw [if_neg hab, if_pos hba]) ?_
      unfold withinP clipP
      rw [if_neg hab, if_pos hba, show -hi - -a = a - hi by omega, show -b - -a = a - b by omega, show -lo - -a = a - lo by omega]
    · refine key (lo - a, b - a) (hi - a, b - a) (by simp only; omega) (by simp only; omega) (by unfold slabP; rw [if_neg hab, if_neg hba]) ?_
      unfold withinP clipP
      rw [if_neg hab, if_neg hba]

theorem Tied.end_ {s : Fr2 × Fr2} {f t : Fr2} {ok : Bool} (h : Tied s f t ok) : endP s.1 s.2 = (ok && endP f t) := by
  rw [Bool.eq_iff_iff, Bool.and_eq_true, endP_iff h.d1 h.d2, endP_iff h.e1 h.e2]
  cases ok with
  | false =>
    have := h.no rfl
    constructor
    · intro k; exact absurd k.1 this
    · intro k; simp at k
  | true =>
    obtain ⟨a, b⟩ := h.yes rfl
    rw [a, b]
    constructor
    · intro k
      refine ⟨rfl, ?_⟩
      grind
    · intro k
      have := k.2
      grind

end Go.Proofs.Ytbfbjpnmgcpjlaa
