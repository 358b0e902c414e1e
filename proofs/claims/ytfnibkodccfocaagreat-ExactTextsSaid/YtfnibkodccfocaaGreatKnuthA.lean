/- The leading zeros of a limb; the plain steps of a long division. -/
import Derived.Test.YtfnibkodccfocaaGreatDivide1
import Derived.Test.YtfnibkodccfocaaGreatShelf
namespace Go.Proofs.YtfnibkodccfocaaGreat
open Go.RowKit

theorem bitLen_pow : ∀ (x : Nat), x < 2 ^ 64 → x < 2 ^ Lib.bitLen x := by
  intro x
  induction x using Nat.strongRecOn with
  | _ x ih =>
    intro hx
    by_cases h0 : x = 0
    · subst h0; exact Nat.two_pow_pos _
    · rw [Lib.bitLen_half x h0 hx, Nat.pow_add]
      have := ih (x / 2) (by omega) (by omega)
      omega

theorem lz_any (t : Nat) (w : World) (h0 : 0 < t) (h1 : t < 4294967296) :
    Calls Tryz.prog 117 #[.int .u32 (t : Int)] w fun e w' => w = w' ∧ ∃ s : Nat, e = .returned (.int .i64 (s : Int)) ∧ s < 32 ∧ t * 2 ^ s < 4294967296 := by
  refine (Tryz.bits_LeadingZeros32 (t : Int) w (by omega) (by omega)).mono ?_
  rintro e w' ⟨he, hw⟩
  rw [Int.toNat_natCast] at he
  have hle := Any.bitLen_le32 (t : Int) (by omega) (by omega)
  rw [Int.toNat_natCast] at hle
  have hp := bitLen_pow t (by omega)
  have hpos : 1 ≤ Lib.bitLen t := by
    rw [Lib.bitLen_half t (by omega) (by omega)]; omega
  refine ⟨hw.symm, 32 - Lib.bitLen t, ?_, by omega, ?_⟩
  · rw [he]; exact ret_int (by omega)
  · have h2 : t * 2 ^ (32 - Lib.bitLen t) < 2 ^ Lib.bitLen t * 2 ^ (32 - Lib.bitLen t) := Nat.mul_lt_mul_of_pos_right hp (Nat.two_pow_pos _)
    rwa [← Nat.pow_add, show Lib.bitLen t + (32 - Lib.bitLen t) = 32 from by omega] at h2

theorem lastOr_get : ∀ (l : List Nat) (p k x : Nat), l[k]? = some x → l.length = k + 1 → lastOr p l = x
  | [], _, _, _, h, _ => by simp at h
  | [a], _, 0, x, h, _ => by simp at h; exact h
  | [a], _, k + 1, x, h, hl => by simp at hl
  | a :: b :: r, p, 0, x, h, hl => by simp at hl
  | a :: b :: r, p, k + 1, x, h, hl => by
    simp only [List.getElem?_cons_succ] at h
    exact lastOr_get (b :: r) a k x h (by simpa using hl)

/-- A number whose last limb has room is shifted without loss. -/
theorem shl_exact {s : Nat} (hs : s < 32) {X : List Nat} {k t : Nat} (ht : X[k]? = some t) (hl : X.length = k + 1) (hr : t * 2 ^ s < 4294967296) : val (shlL s 0 X) = val X * 2 ^ s := by
  have h := val_shlL (s := s) (by omega) X 0
  rw [lastOr_get X 0 k t ht hl] at h
  have e : t / 2 ^ (32 - s) = 0 := by
    apply Nat.div_eq_of_lt
    have e1 : (4294967296 : Nat) = 2 ^ (32 - s) * 2 ^ s := by rw [← Nat.pow_add, Nat.sub_add_cancel (by omega)]
    rw [e1] at hr
    exact Nat.lt_of_mul_lt_mul_right hr
  rw [e, Nat.mul_zero, Nat.add_zero, Nat.zero_div, Nat.zero_add] at h
  exact h

/-- One round of a long division. -/
theorem long_round {R P Q : List Nat} {i m q V A : Nat} (hi : i + m + 1 ≤ R.length) (hP : P.length = m + 1) (hA : A = val R + W (i + 1) * (val Q * V)) (hv : val P + q * V = val ((R.drop i).take (m + 1))) (hz : val (R.drop (i + m + 1)) = 0) (hlt : val P < V) :
    A = val (R.take i ++ P ++ R.drop (i + m + 1)) + W i * (val (q :: Q) * V) ∧ val ((R.take i ++ P ++ R.drop (i + m + 1)).drop i) < V := by
  have hl : (R.take i).length = i := by rw [List.length_take]; omega
  have e1 : val R = val (R.take i) + W i * (val ((R.drop i).take (m + 1)) + W (m + 1) * val (R.drop (i + m + 1))) := by
    rw [val_take_drop R i (by omega), val_take_drop (R.drop i) (m + 1) (by rw [List.length_drop]; omega), List.drop_drop, Nat.add_assoc i m 1]
  have e2 : val (R.take i ++ P ++ R.drop (i + m + 1)) = val (R.take i) + W i * val P := by
    rw [val_append, val_append, hl, hz, Nat.mul_zero, Nat.add_zero]
  constructor
  · rw [hA, e1, e2, hz, Nat.mul_zero, Nat.add_zero, ← hv, W_succ, val_cons, Nat.add_mul, Nat.mul_add, Nat.mul_add, Nat.mul_comm 4294967296, Nat.mul_assoc (W i), Nat.mul_assoc 4294967296]
    omega
  · rw [List.append_assoc, List.drop_left' hl, val_append, hz, Nat.mul_zero, Nat.add_zero]; exact hlt

/-- What takeOff asks ahead of a round. -/
theorem long_pre {R : List Nat} {i m V : Nat} (hR : Bd R) (hi : i + m + 1 ≤ R.length) (hlt : val (R.drop (i + 1)) < V) (hV : V < W m) : val ((R.drop i).take (m + 1)) < V * 4294967296 ∧ val (R.drop (i + m + 1)) = 0 := by
  have hiR : i < R.length := by omega
  have h1 : val (R.drop i) = R[i] + 4294967296 * val (R.drop (i + 1)) := by rw [List.drop_eq_getElem_cons hiR, val_cons]
  have h2 := hR.get hiR
  have h3 : val (R.drop i) = val ((R.drop i).take (m + 1)) + W (m + 1) * val ((R.drop i).drop (m + 1)) := val_take_drop (R.drop i) (m + 1) (by rw [List.length_drop]; omega)
  have h4 : val (R.drop (i + 1)) = val ((R.drop (i + 1)).take m) + W m * val ((R.drop (i + 1)).drop m) := val_take_drop (R.drop (i + 1)) m (by rw [List.length_drop]; omega)
  rw [List.drop_drop] at h4
  have hz : val (R.drop (i + 1 + m)) = 0 := by
    rcases Nat.eq_zero_or_pos (val (R.drop (i + 1 + m))) with h | h
    · exact h
    · have : W m * 1 ≤ W m * val (R.drop (i + 1 + m)) := Nat.mul_le_mul_left _ h
      omega
  refine ⟨by omega, by rw [show i + m + 1 = i + 1 + m from by omega]; exact hz⟩

/-- The end of a long division. -/
theorem long_end {a b q R x e s : Nat} (hA : a * 2 ^ s = R + q * (b * 2 ^ s)) (hR : R < b * 2 ^ s) (hx : x * 2 ^ s + e = R) (he : e < 2 ^ s) : q = a / b ∧ x = a % b := by
  have hp := Nat.two_pow_pos s
  generalize 2 ^ s = k at *
  have h1 : R = (a - q * b) * k := by rw [Nat.sub_mul, Nat.mul_assoc, hA]; omega
  have hle : q * b ≤ a := by
    have : q * b * k ≤ a * k := by rw [Nat.mul_assoc, hA]; omega
    exact Nat.le_of_mul_le_mul_right this hp
  have h2 : a - q * b < b := by
    rw [h1] at hR
    exact Nat.lt_of_mul_lt_mul_right hR
  have h3 : x = a - q * b := by
    rw [h1] at hx
    rcases Nat.lt_trichotomy x (a - q * b) with h | h | h
    · have : (x + 1) * k ≤ (a - q * b) * k := Nat.mul_le_mul_right _ h
      rw [Nat.add_mul, Nat.one_mul] at this; omega
    · exact h
    · have : (a - q * b + 1) * k ≤ x * k := Nat.mul_le_mul_right _ h
      rw [Nat.add_mul, Nat.one_mul] at this; omega
  have h4 : a = (a - q * b) + b * q := by rw [Nat.mul_comm b]; omega
  have hb : 0 < b := by omega
  constructor
  · rw [h4, Nat.add_mul_div_left _ _ hb, Nat.div_eq_of_lt h2]; omega
  · rw [h3]
    conv => rhs; rw [h4]
    rw [Nat.add_mul_mod_self_left, Nat.mod_eq_of_lt h2]

end Go.Proofs.YtfnibkodccfocaaGreat
