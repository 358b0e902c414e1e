/- Several texts in one. -/
import Derived.Test.YthlfhfkfjefidaaGreatRefB
import Derived.Test.YthlfhfkfjefidaaGreatIntG
/- The reference's Small. -/
namespace Go.Proofs.YthlfhfkfjefidaaGreat
open Go.RowKit
theorem cols_sign (s : Bool) (l : List Nat) : (∀ y ∈ cols s l, 0 ≤ y) ∨ (∀ y ∈ cols s l, y ≤ 0) := by
 cases s
 · left
   induction l with
   | nil => simp [cols]
   | cons x r ih =>
     intro y hy
     simp only [cols, List.mem_cons, sgn] at hy
     rcases hy with rfl | rfl | h
     · simp; omega
     · simp; omega
     · exact ih y h
 · right
   induction l with
   | nil => simp [cols]
   | cons x r ih =>
     intro y hy
     simp only [cols, List.mem_cons, sgn] at hy
     rcases hy with rfl | rfl | h
     · simp; omega
     · simp; omega
     · exact ih y h
theorem drop_step {c : List Int} {k : Nat} {x : Int} (hx : c[k]? = some x) : valc (c.drop k) = x + 65536 * valc (c.drop (k + 1)) := by
 obtain ⟨h, rfl⟩ := List.getElem?_eq_some_iff.1 hx
 rw [List.drop_eq_getElem_cons h, valc]
section
variable {w w1 : World} {s : Bool} {A : Option Addr} {n c : Nat} {x : Int} {K : Nat} {nf : Bool}
end
end Go.Proofs.YthlfhfkfjefidaaGreat
/- The reference's Divide: what the loop does, in numbers. -/
namespace Go.Proofs.YthlfhfkfjefidaaGreat
open Go.RowKit
theorem IntH.tight {w0 : World} {s : Bool} {A : Option Addr} {n c : Nat} {z : Int} {K K' : Nat} (h : IntH w0 s A n c z K true) (hz : z.natAbs < W K') : IntH w0 s A n c z K' true := by
 obtain ⟨l, h1, h2, h3⟩ := h.lim
 refine ⟨⟨l, h1, h2, h3⟩, ?_⟩
 have hl := h1 w0 (Below.refl _ _)
 rw [h2, sg_abs] at hz
 have := norm_len_le (h3 rfl).1 hz
 rwa [hl.len] at this
theorem IntH.later {w0 w : World} {s : Bool} {A : Option Addr} {n c : Nat} {z : Int} {K : Nat} {nf : Bool} (h : IntH w0 s A n c z K nf) (hb : Below w0.heap.size w0 w) : IntH w s A n c z K nf := by
 obtain ⟨l, h1, h2, h3⟩ := h.lim
 exact ⟨⟨l, fun w' hb' => h1 w' (below_to hb hb' hb.size), h2, h3⟩, h.len⟩
theorem IntH.nil_ (w : World) : IntH w false none 0 0 0 0 true := ⟨⟨[], fun _ _ => Lim.nil_ _ _, rfl, fun _ => ⟨by simp [Norm], fun h => by cases h⟩⟩, Nat.le_refl _⟩
structure DivI (ca : List Int) (b : Int) (j : Nat) (qs : List Int) (R : Int) : Prop where
 val : valc (ca.drop j) = valc qs * b + R
 lo : 0 ≤ R
 hi : R < b
 bd : ∀ y ∈ qs, 0 ≤ y ∧ y < 65536
 len : qs.length + j = ca.length
theorem DivI.start {ca : List Int} {b : Int} (hb : 0 < b) : DivI ca b ca.length [] 0 := ⟨by simp [valc], by omega, hb, by simp, by simp⟩
theorem DivI.more {ca : List Int} {b R y : Int} {j : Nat} {qs : List Int} (h : DivI ca b (j + 1) qs R) (hy : 0 ≤ y ∧ y < 65536) : 0 ≤ R * 65536 + y ∧ R * 65536 + y < b * 65536 := by
 have h1 := h.lo
 have h2 := h.hi
 omega
theorem DivI.next {ca : List Int} {b R y n : Int} {j : Nat} {qs : List Int} (h : DivI ca b (j + 1) qs R) (hx : ca[j]? = some y) (hn : 0 ≤ n ∧ n < 65536) (h1 : b * n ≤ R * 65536 + y) (h2 : R * 65536 + y < b * (n + 1)) : DivI ca b j (n :: qs) (R * 65536 + y - b * n) := by
 refine ⟨?_, by omega, by rw [Int.mul_add] at h2; omega, ?_, ?_⟩
 · have h3 := h.val
   have h4 := drop_step hx
   rw [h4, h3, valc]
   grind
 · intro z hz
   rcases List.mem_cons.1 hz with rfl | hz
   · exact hn
   · exact h.bd z hz
 · have := h.len
   simp only [List.length_cons]
   omega
theorem DivI.done {ca : List Int} {b R : Int} {qs : List Int} (h : DivI ca b 0 qs R) : valc qs = valc ca / b ∧ R = valc ca % b := by
 have h1 := h.val
 rw [List.drop_zero] at h1
 have h2 := h.lo
 have h3 := h.hi
 have h4 : valc ca = R + b * valc qs := by rw [h1, Int.mul_comm b]; omega
 constructor
 · rw [h4, Int.add_mul_ediv_left _ _ (by omega), Int.ediv_eq_zero_of_lt h2 h3]; omega
 · rw [h4, Int.add_mul_emod_self_left, Int.emod_eq_of_lt h2 h3]
theorem div_signs {x y Q R a b : Int} (hxa : (x.natAbs : Int) = a) (hyb : (y.natAbs : Int) = b) (hy : y ≠ 0) (hQ : Q = a / b) (hR : R = a % b) :
 (0 ≤ x → 0 < y → x / y = Q ∧ x % y = R) ∧ (0 ≤ x → y < 0 → x / y = -Q ∧ x % y = R) ∧
 (x < 0 → R = 0 → 0 < y → x / y = -Q ∧ x % y = R) ∧ (x < 0 → R = 0 → y < 0 → x / y = Q ∧ x % y = R) ∧
 (x < 0 → 0 < R → 0 < y → x / y = -(Q + 1) ∧ x % y = b - R) ∧ (x < 0 → 0 < R → y < 0 → x / y = Q + 1 ∧ x % y = b - R) := by
 have hb : 0 < b := by omega
 have h1 := Int.emod_add_mul_ediv a b
 have h2 := Int.emod_nonneg a (show b ≠ 0 by omega)
 have h3 := Int.emod_lt_of_pos a hb
 rw [← hQ, ← hR] at h1
 rw [← hR] at h2 h3
 clear hQ hR
 have key : ∀ (q r : Int), 0 ≤ r → r < b → r + y * q = x → (y = b ∨ y = -b) → x / y = q ∧ x % y = r := fun q r hr0 hr1 hx hyb => by
  rcases hyb with e | e
  · rw [e] at hx ⊢
    exact (Int.ediv_emod_unique hb).2 ⟨hx, hr0, hr1⟩
  · have := (Int.ediv_emod_unique (a := x) (r := r) (q := -q) hb).2 ⟨by rw [← hx, e, Int.mul_neg, Int.neg_mul], hr0, hr1⟩
    rw [e, Int.ediv_neg, Int.emod_neg, this.1, this.2]
    omega
 refine ⟨fun hx hy => ?_, fun hx hy => ?_, fun hx h0 hy => ?_, fun hx h0 hy => ?_, fun hx h0 hy => ?_, fun hx h0 hy => ?_⟩
 · have e1 : y = b := by omega
   have e2 : x = a := by omega
   exact key _ _ h2 h3 (by rw [e1, e2]; exact h1) (.inl e1)
 · have e1 : y = -b := by omega
   have e2 : x = a := by omega
   exact key _ _ h2 h3 (by rw [e1, e2, Int.neg_mul_neg]; exact h1) (.inr e1)
 · have e1 : y = b := by omega
   have e2 : x = -a := by omega
   exact key _ _ h2 h3 (by rw [e1, e2, Int.mul_neg]; omega) (.inl e1)
 · have e1 : y = -b := by omega
   have e2 : x = -a := by omega
   exact key _ _ h2 h3 (by rw [e1, e2, Int.neg_mul]; omega) (.inr e1)
 · have e1 : y = b := by omega
   have e2 : x = -a := by omega
   exact key _ _ (by omega) (by omega) (by rw [e1, e2, Int.mul_neg, Int.mul_add]; omega) (.inl e1)
 · have e1 : y = -b := by omega
   have e2 : x = -a := by omega
   exact key _ _ (by omega) (by omega) (by rw [e1, e2, Int.neg_mul, Int.mul_add]; omega) (.inr e1)
end Go.Proofs.YthlfhfkfjefidaaGreat
