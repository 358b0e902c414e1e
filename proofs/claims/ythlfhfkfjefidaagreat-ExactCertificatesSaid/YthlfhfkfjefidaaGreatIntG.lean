/- Several texts in one. -/
import Derived.Test.YthlfhfkfjefidaaGreatAriG
import Derived.Deep.RegionHeld3
import Derived.Deep.QuietTactic
import Derived.BigQuiet
import Derived.Test.YthlfhfkfjefidaaGreatKnuG
/- Integers as arguments and results: the contracts of Sum, Diff, Prod, CmpInt, Divide, Of in one form. -/
namespace Go.Proofs.YthlfhfkfjefidaaGreat
open Go.RowKit
structure IntH (w0 : World) (s : Bool) (A : Option Addr) (n c : Nat) (z : Int) (K : Nat) (nf : Bool) : Prop where
 lim : ∃ l, (∀ w', Below w0.heap.size w0 w' → Lim w' w'.heap.size A n c l) ∧ z = sg s (val l) ∧ (nf = true → Norm l ∧ (s = true → 0 < n))
 len : n ≤ K
theorem sg_abs (s : Bool) (x : Nat) : (sg s x).natAbs = x := by cases s <;> simp [sg]
section
variable {w0 w w1 w2 : World} {s s1 s2 : Bool} {A A1 A2 : Option Addr} {n c n1 c1 n2 c2 : Nat} {z x y : Int} {K K1 K2 : Nat} {nf f1 f2 : Bool}
theorem IntH.abs (h : IntH w0 s A n c z K nf) : z.natAbs < W K := by
 obtain ⟨l, h1, h2, -⟩ := h.lim
 have hl := h1 w0 (Below.refl _ _)
 rw [h2, sg_abs]
 have := val_lt hl.bd
 rw [hl.len] at this
 exact Nat.lt_of_lt_of_le this (W_mono h.len)
theorem IntH.of_at {v : Value} (h : IntAt w w.heap.size v z) (hz : z.natAbs < W K) : ∃ s A n c, v = .agg #[.bool s, .slice A n c] ∧ IntH w s A n c z K true := by
 obtain ⟨s, A, n, c, l, e, hl, hn, hzz, hs⟩ := h
 refine ⟨s, A, n, c, e, ⟨l, fun w' hb => hl.below hb (Nat.le_refl _) hb.size, hzz, fun _ => ⟨hn, hs⟩⟩, ?_⟩
 rw [hzz, sg_abs] at hz
 have := norm_len_le hn hz
 rwa [hl.len] at this
abbrev MakesInt (z : Int) (K : Nat) (w : World) (e : Ending) (w' : World) : Prop := Below w.heap.size w w' ∧ ∃ s A n c, e = .returned (.agg #[.bool s, .slice A n c]) ∧ IntH w' s A n c z K true
theorem makes_of {e : Ending} {w' : World} (h : IntR z w e w') (hz : z.natAbs < W K) : MakesInt z K w e w' := by
 obtain ⟨hb, v, rfl, ha⟩ := h
 obtain ⟨s, A, n, c, rfl, hi⟩ := IntH.of_at ha hz
 exact ⟨hb, s, A, n, c, rfl, hi⟩
theorem W_sum {a b : Nat} (ha : a < W K1) (hb : b < W K2) : a + b < W (K1 + K2 + 1) := by
 have h1 : W K1 ≤ W (K1 + K2) := W_mono (by omega)
 have h2 : W K2 ≤ W (K1 + K2) := W_mono (by omega)
 rw [W_succ]
 omega
theorem sumH (h1 : IntH w1 s1 A1 n1 c1 x K1 f1) (h2 : IntH w2 s2 A2 n2 c2 y K2 f2) (b1 : Below w1.heap.size w1 w) (b2 : Below w2.heap.size w2 w) (k1 : K1 ≤ 1000) (k2 : K2 ≤ 1000) :
 Calls Tryz.prog 14 #[.agg #[.bool s1, .slice A1 n1 c1], .agg #[.bool s2, .slice A2 n2 c2]] w (MakesInt (x + y) (K1 + K2 + 1) w) := by
 have a1 := h1.abs
 have a2 := h2.abs
 have e1 := h1.len
 have e2 := h2.len
 obtain ⟨l1, g1, rfl, -⟩ := h1.lim
 obtain ⟨l2, g2, rfl, -⟩ := h2.lim
 refine (sum_any s1 s2 A1 A2 n1 c1 n2 c2 l1 l2 w (g1 w b1) (g2 w b2) (by omega) (by omega)).mono fun e w' h => makes_of h ?_
 have := W_sum a1 a2
 omega
theorem prodH (h1 : IntH w1 s1 A1 n1 c1 x K1 f1) (h2 : IntH w2 s2 A2 n2 c2 y K2 f2) (b1 : Below w1.heap.size w1 w) (b2 : Below w2.heap.size w2 w) (k1 : K1 ≤ 1000) (k2 : K2 ≤ 1000) :
 Calls Tryz.prog 18 #[.agg #[.bool s1, .slice A1 n1 c1], .agg #[.bool s2, .slice A2 n2 c2]] w (MakesInt (x * y) (K1 + K2) w) := by
 have a1 := h1.abs
 have a2 := h2.abs
 have e1 := h1.len
 have e2 := h2.len
 obtain ⟨l1, g1, rfl, -⟩ := h1.lim
 obtain ⟨l2, g2, rfl, -⟩ := h2.lim
 refine (prod_any s1 s2 A1 A2 n1 c1 n2 c2 l1 l2 w (g1 w b1) (g2 w b2) (by omega) (by omega)).mono fun e w' h => makes_of h ?_
 rw [Int.natAbs_mul, W_add]
 exact Nat.mul_lt_mul_of_lt_of_lt a1 a2
theorem cmpH (h1 : IntH w1 s1 A1 n1 c1 x K1 f1) (h2 : IntH w2 s2 A2 n2 c2 y K2 f2) (b1 : Below w1.heap.size w1 w) (b2 : Below w2.heap.size w2 w) {C : Int} (hC : cmpI x y = C) :
 Calls Tryz.prog 22 #[.agg #[.bool s1, .slice A1 n1 c1], .agg #[.bool s2, .slice A2 n2 c2]] w fun e w' => Below w.heap.size w w' ∧ e = .returned (.int .i64 C) := by
 obtain ⟨l1, g1, rfl, -⟩ := h1.lim
 obtain ⟨l2, g2, rfl, -⟩ := h2.lim
 subst hC
 exact (cmpInt_any s1 s2 A1 A2 n1 c1 n2 c2 l1 l2 w (g1 w b1) (g2 w b2)).mono fun e w' h => ⟨h.2, h.1⟩
theorem div_abs (x y : Int) : (x / y).natAbs ≤ x.natAbs + 1 := by
 rcases Int.lt_trichotomy y 0 with h | h | h
 · obtain ⟨k, rfl⟩ : ∃ k : Nat, y = -(k : Int) := ⟨y.natAbs, by omega⟩
   rw [Int.ediv_neg, Int.natAbs_neg]
   have hk : (0 : Int) < k := by omega
   have h1 : x / (k : Int) * k ≤ x := Int.ediv_mul_le x (by omega)
   have h2 : x < (x / (k : Int) + 1) * k := Int.lt_ediv_add_one_mul_self x hk
   rcases Int.lt_or_le (x / (k : Int)) 0 with h3 | h3
   · have : (x / (k : Int) + 1) * k ≤ (x / (k : Int) + 1) * 1 := by
      rcases Int.lt_or_le (x / (k : Int) + 1) 0 with h4 | h4
      · exact Int.mul_le_mul_of_nonpos_left (by omega) (by omega)
      · have : x / (k : Int) + 1 = 0 := by omega
        rw [this]; simp
     omega
   · have : x / (k : Int) * 1 ≤ x / (k : Int) * k := Int.mul_le_mul_of_nonneg_left (by omega) h3
     omega
 · subst h; simp
 · have h1 : x / y * y ≤ x := Int.ediv_mul_le x (by omega)
   have h2 : x < (x / y + 1) * y := Int.lt_ediv_add_one_mul_self x h
   rcases Int.lt_or_le (x / y) 0 with h3 | h3
   · have : (x / y + 1) * y ≤ (x / y + 1) * 1 := by
      rcases Int.lt_or_le (x / y + 1) 0 with h4 | h4
      · exact Int.mul_le_mul_of_nonpos_left (by omega) (by omega)
      · have : x / y + 1 = 0 := by omega
        rw [this]; simp
     omega
   · have : x / y * 1 ≤ x / y * y := Int.mul_le_mul_of_nonneg_left (by omega) h3
     omega
end
end Go.Proofs.YthlfhfkfjefidaaGreat
/- Integers that are equal: SameInt; integers with few limbs: short. -/
namespace Go.Proofs.YthlfhfkfjefidaaGreat
open Go.RowKit
end Go.Proofs.YthlfhfkfjefidaaGreat
/- Small steps of worlds and blocks (the words BL and BK). -/
namespace Go.Proofs.YthlfhfkfjefidaaGreat
open Go.RowKit
theorem Below.step {D E : Nat} {w w1 w2 : World} (h : Below E w1 w2) (h1 : Below D w w1) (hD : D ≤ E) : Below D w w2 := h1.trans (h.mono hD)
theorem Below.alloc2 {w w1 : World} (h : Below w.heap.size w w1) (o : Obj) : Below w.heap.size w (w1.alloc o) := h.alloc h.size o
theorem Below.step2 {w w1 w2 : World} (h : Below w1.heap.size w1 w2) (h1 : Below w.heap.size w w1) : Below w.heap.size w w2 := h1.trans (h.mono h1.size)
theorem Bk.step {D g : Nat} {t : TypeId} {cs : Array Value} {w1 w2 : World} (hb : Below D w1 w2) (h : Bk w1 g t cs) (hg : g < D) : Bk w2 g t cs := h.below hb hg
theorem Bk.at_ {w : World} {g : Nat} {t : TypeId} {cs : Array Value} (hg : w.heap.size = g) : Bk (w.alloc (.cells cs t)) g t cs := by subst hg; exact Bk.alloc_ _ _ _
theorem Bk.drew {w : World} {g : Nat} {t : TypeId} {cs : Array Value} (h : Bk w g t cs) : Bk w.drew g t cs := h
theorem bl {D : Nat} {w w' : World} (h : Below D w w' := by repeat (first | with_reducible exact Below.refl _ _ | with_reducible assumption | with_reducible refine Below.drew ?_ | with_reducible refine Below.drewN ?_ _ | with_reducible refine Below.alloc2 ?_ _ | with_reducible refine Below.alloc ?_ (by first | omega | (simp <;> omega)) _ | with_reducible refine Below.setCell ?_ (by first | omega | (simp <;> omega)) _ | with_reducible refine Below.step2 (by with_reducible assumption) ?_ | with_reducible refine Below.step (by with_reducible assumption) ?_ (by first | omega | (simp <;> omega)))) : Below D w w' := h
theorem bk {w : World} {g : Nat} {t : TypeId} {cs : Array Value} (h : Bk w g t cs := by repeat (first | with_reducible assumption | with_reducible exact Bk.at_ (by first | (simp; done) | omega) | with_reducible refine Bk.alloc ?_ _ | with_reducible refine Bk.drew ?_ | with_reducible refine Bk.drewN ?_ _ | with_reducible refine Bk.step (by with_reducible assumption) ?_ (by first | omega | (simp <;> omega)))) : Bk w g t cs := h
theorem IntH.past {w0 : World} {s : Bool} {A : Option Addr} {n c : Nat} {z : Int} {K : Nat} {nf : Bool} (h : IntH w0 s A n c z K nf) {g t : Nat} {x : Bool} {y1 : Option Addr} {y2 y3 : Nat} (hb : Bk w0 g t #[.bool x, .slice y1 y2 y3]) (u v : Value) :
 IntH ((w0.setCell ⟨g, 0, none⟩ u).setCell ⟨g, 1, none⟩ v) s A n c z K nf := by
 obtain ⟨l, h1, h2, h3⟩ := h.lim
 have hs : ((w0.setCell ⟨g, 0, none⟩ u).setCell ⟨g, 1, none⟩ v).heap.size = w0.heap.size := by simp [World.setCell]
 exact ⟨⟨l, fun w' hb' => ((h1 w0 (Below.refl _ _)).past hb u v).below hb' (by rw [hs]; exact Nat.le_refl _) (by have := hb'.size; omega), h2, h3⟩, h.len⟩
theorem Bk.duo {w : World} {g t : Nat} {a b : Value} (h : Bk w g t #[a, b]) : w.cell? ⟨g, 0, none⟩ = some a ∧ w.cell? ⟨g, 1, none⟩ = some b := ⟨by simpa using h.cell 0, by simpa using h.cell 1⟩
end Go.Proofs.YthlfhfkfjefidaaGreat
/- The walk of Small. -/
namespace Go.Proofs.YthlfhfkfjefidaaGreat
open Go.RowKit
def smallV (z : Int) : Value := if -9223372036854775808 ≤ z ∧ z ≤ 9223372036854775807 then .tuple #[.int .i64 z, .bool true] else .tuple #[.int .i64 0, .bool false]
end Go.Proofs.YthlfhfkfjefidaaGreat
