/- Fractions as arguments and results: the contracts in one form; Lean's Rat. -/
import Derived.Test.YtgfbanlefkajhaaGreatIntH
import Derived.Test.YtgfbanlefkajhaaGreatFloor
import Derived.Test.YtgfbanlefkajhaaGreatWhole
import Derived.Test.YtgfbanlefkajhaaGreatNormal
namespace Go.Proofs.YtgfbanlefkajhaaGreat
open Go.RowKit

/-- From the world w0 on these are a fraction with the value x and at most K limbs in each part, in normal form if nf. -/
structure RatH (w0 : World) (s1 : Bool) (A1 : Option Addr) (n1 c1 : Nat) (s2 : Bool) (A2 : Option Addr) (n2 c2 : Nat) (x : Rat) (K : Nat) (nf : Bool) : Prop where
  lim : ∃ l1 l2, (∀ w', Below w0.heap.size w0 w' → Lim w' w'.heap.size A1 n1 c1 l1) ∧ (∀ w', Below w0.heap.size w0 w' → Lim w' w'.heap.size A2 n2 c2 l2) ∧ x = frac (sg s1 (val l1)) (sg s2 (val l2)) ∧
    (nf = true → Norm l1 ∧ (s1 = true → 0 < n1) ∧ Norm l2 ∧ (s2 = true → 0 < n2) ∧ x.num = sg s1 (val l1) ∧ (x.den : Int) = sg s2 (val l2))
  len1 : n1 ≤ K
  len2 : n2 ≤ K
theorem frac_rat (x : Rat) : frac x.num (x.den : Int) = x := by
  have h : (x.den : Int) ≠ 0 := by have := x.den_pos; omega
  unfold frac
  rw [if_neg h]
  exact Rat.num_divInt_den x
abbrev MakesRat (x : Rat) (K : Nat) (w : World) (e : Ending) (w' : World) : Prop := Below w.heap.size w w' ∧ ∃ s1 A1 n1 c1 s2 A2 n2 c2, e = .returned (.agg #[.bool s1, .slice A1 n1 c1, .bool s2, .slice A2 n2 c2]) ∧ RatH w' s1 A1 n1 c1 s2 A2 n2 c2 x K true
section
variable {w w' : World} {x : Rat} {K : Nat} {e : Ending}
theorem makesR_of (h : RatR x w e w') (h1 : x.num.natAbs < W K) (h2 : x.den < W K) : MakesRat x K w e w' := by
  obtain ⟨hb, v, rfl, s, A, n, c, t, A', n', c', rfl, ha, hd⟩ := h
  refine ⟨hb, s, A, n, c, t, A', n', c', rfl, ?_⟩
  obtain ⟨s1, A1, n1, c1, l1, e1, L1, N1, z1, p1⟩ := ha
  obtain ⟨s2, A2, n2, c2, l2, e2, L2, N2, z2, p2⟩ := hd
  simp only [Value.agg.injEq, Array.mk.injEq, List.cons.injEq, Value.bool.injEq, Value.slice.injEq, and_true] at e1 e2
  obtain ⟨rfl, rfl, rfl, rfl⟩ := e1
  obtain ⟨rfl, rfl, rfl, rfl⟩ := e2
  refine ⟨⟨l1, l2, fun w' hb => L1.below hb (Nat.le_refl _) hb.size, fun w' hb => L2.below hb (Nat.le_refl _) hb.size, ?_, fun _ => ⟨N1, p1, N2, p2, z1, z2⟩⟩, ?_, ?_⟩
  · rw [← z1, ← z2]; exact (frac_rat x).symm
  · rw [z1, sg_abs] at h1
    have := norm_len_le N1 h1
    rwa [L1.len] at this
  · have h3 : (x.den : Int).natAbs < W K := by simpa using h2
    rw [z2, sg_abs] at h3
    have := norm_len_le N2 h3
    rwa [L2.len] at this
/-- The parts of p/q are no greater than p and q. -/
theorem divInt_bd {p q : Int} (hq : 0 < q) : (Rat.divInt p q).num.natAbs ≤ p.natAbs ∧ (Rat.divInt p q).den ≤ q.natAbs := by
  obtain ⟨b, rfl⟩ : ∃ b : Nat, q = (b : Int) := ⟨q.toNat, by omega⟩
  obtain ⟨s, a, rfl⟩ : ∃ s a, p = sg s a := by
    rcases Int.lt_or_le p 0 with h | h
    · exact ⟨true, p.natAbs, by simp [sg]; omega⟩
    · exact ⟨false, p.natAbs, by simp [sg]; omega⟩
  have hn := rat_num s false a b (by omega)
  have hd := rat_den s false a b (by omega)
  rw [sg_false] at hn hd
  rw [hn, hd, sg_abs, sg_abs]
  exact ⟨Nat.div_le_self _ _, by simpa using Nat.div_le_self b _⟩
theorem RatH.stored {w0 w' : World} {s1 : Bool} {A1 : Option Addr} {n1 c1 : Nat} {s2 : Bool} {A2 : Option Addr} {n2 c2 : Nat} {x : Rat} {K : Nat} {nf : Bool} (h : RatH w0 s1 A1 n1 c1 s2 A2 n2 c2 x K nf) {g t : Nat} {a b : Bool} {A C : Option Addr} {n c m d : Nat}
    (hb : Bk w0 g t #[.bool a, .slice A n c, .bool b, .slice C m d]) (hw : ∀ p : Addr, p.block ≠ g → w'.cell? p = w0.cell? p) (hs : w'.heap.size = w0.heap.size) : RatH w' s1 A1 n1 c1 s2 A2 n2 c2 x K nf := by
  obtain ⟨l1, l2, h1, h2, h3, h4⟩ := h.lim
  exact ⟨⟨l1, l2, fun u hu => ((h1 w0 (Below.refl _ _)).other hb (fun k z => rat_cells) hw).below hu (by rw [hs]; exact Nat.le_refl _) (by have := hu.size; omega),
    fun u hu => ((h2 w0 (Below.refl _ _)).other hb (fun k z => rat_cells) hw).below hu (by rw [hs]; exact Nat.le_refl _) (by have := hu.size; omega), h3, h4⟩, h.len1, h.len2⟩
theorem IntH.of_num {v : Value} {z : Int} (h : NumAt w w.heap.size v z) (hz : z.natAbs < W K) : ∃ s A n c, v = .agg #[.bool s, .slice A n c] ∧ IntH w s A n c z K false := by
  obtain ⟨s, A, n, c, l, e, hl, hn, hzz⟩ := h
  refine ⟨s, A, n, c, e, ⟨l, fun w' hb => hl.below hb (Nat.le_refl _) hb.size, hzz, fun h => by cases h⟩, ?_⟩
  rw [hzz, sg_abs] at hz
  have := norm_len_le hn hz
  rwa [hl.len] at this
theorem termsH {w1 : World} {s1 : Bool} {A1 : Option Addr} {n1 c1 : Nat} {s2 : Bool} {A2 : Option Addr} {n2 c2 : Nat} {nf : Bool} (h : RatH w1 s1 A1 n1 c1 s2 A2 n2 c2 x K nf) (b1 : Below w1.heap.size w1 w) :
    Calls Tryz.prog 57 #[.agg #[.bool s1, .slice A1 n1 c1, .bool s2, .slice A2 n2 c2]] w fun e w' => Below w.heap.size w w' ∧ ∃ s A n c s' A' n' c' p q, e = .returned (.tuple #[.agg #[.bool s, .slice A n c], .agg #[.bool s', .slice A' n' c']]) ∧
      IntH w' s A n c p (K + 1) false ∧ IntH w' s' A' n' c' q (K + 1) false ∧ Rat.divInt p q = x ∧ 0 < q := by
  obtain ⟨l1, l2, h1, h2, h3, -⟩ := h.lim
  have L1 := h1 w b1
  have L2 := h2 w b1
  refine (terms_any s1 s2 A1 A2 n1 c1 n2 c2 l1 l2 w L1 L2).mono fun e w' hh => ?_
  obtain ⟨hb, u, v, p, q, rfl, hu, hv, ht⟩ := hh
  have e1 := sg_below (s := s1) L1.bd L1.len (Nat.le_succ_of_le h.len1)
  have e2 := sg_below (s := s2) L2.bd L2.len (Nat.le_succ_of_le h.len2)
  obtain ⟨k1, k2⟩ := ht.bounds e1 e2 (Nat.succ_pos K)
  obtain ⟨s, A, n, c, rfl, i1⟩ := IntH.of_num hu k1
  obtain ⟨s', A', n', c', rfl, i2⟩ := IntH.of_num hv k2
  obtain ⟨f1, f2⟩ := ht.frac
  exact ⟨hb, s, A, n, c, s', A', n', c', p, q, rfl, i1, i2, by rw [f1, h3], f2⟩
theorem IntH.num {w0 : World} {s : Bool} {A : Option Addr} {n c : Nat} {z : Int} (h : IntH w0 s A n c z K true) (hb : Below w0.heap.size w0 w) : NumAt w w.heap.size (.agg #[.bool s, .slice A n c]) z := by
  obtain ⟨l, h1, h2, h3⟩ := h.lim
  exact ⟨s, A, n, c, l, rfl, h1 w hb, (h3 rfl).1, h2⟩
theorem fractionH {w1 w2 : World} {s1 s2 : Bool} {A1 A2 : Option Addr} {n1 c1 n2 c2 K1 K2 : Nat} {p q : Int} (h1 : IntH w1 s1 A1 n1 c1 p K1 true) (h2 : IntH w2 s2 A2 n2 c2 q K2 true) (b1 : Below w1.heap.size w1 w) (b2 : Below w2.heap.size w2 w) (k1 : K1 ≤ 100000) (k2 : K2 ≤ 100000) (h0 : 0 < q) :
    Calls Tryz.prog 58 #[.agg #[.bool s1, .slice A1 n1 c1], .agg #[.bool s2, .slice A2 n2 c2]] w (MakesRat (Rat.divInt p q) (K1 + K2) w) := by
  have a1 := h1.abs
  have a2 := h2.abs
  have m1 : W K1 ≤ W (K1 + K2) := W_mono (by omega)
  have m2 : W K2 ≤ W (K1 + K2) := W_mono (by omega)
  obtain ⟨d1, d2⟩ := divInt_bd (p := p) h0
  exact (fraction_num _ _ p q w (h1.num b1) (h2.num b2) (Nat.lt_of_lt_of_le a1 (W_mono (by omega))) (Nat.lt_of_lt_of_le a2 (W_mono (by omega))) h0).mono fun e w' h => makesR_of h (by omega) (by omega)
end
end Go.Proofs.YtgfbanlefkajhaaGreat
