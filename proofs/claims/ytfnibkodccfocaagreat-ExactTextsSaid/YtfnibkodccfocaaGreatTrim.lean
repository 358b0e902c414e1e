/- The walk of trim: the limbs without the zeros at their end, in the same memory. -/
import Derived.Test.YtfnibkodccfocaaGreatProg
import Derived.Test.YtfnibkodccfocaaGreatMem
namespace Go.Proofs.YtfnibkodccfocaaGreat
open Go.RowKit

set_option maxHeartbeats 400000 in
theorem trim_any (A : Option Addr) (n c : Nat) (l : List Nat) (B : Nat) (w : World) (h : Lim w B A n c l) :
    Calls Tryz.prog 88 #[.slice A n c] w fun e w' => w = w' ∧ ∃ m, e = .returned (.slice A m c) ∧ m ≤ n ∧ val (l.take m) = val l ∧ Norm (l.take m) := by
  have hcap := h.cap
  have hmax := h.max
  have hlen := Lib.hid h.len
  go_enter Tryz.func88, Tryz.ntmps88
  go_wp2
  go_loop [3] (fun i => ∃ k : Nat, k ≤ n ∧ i = .int .i64 k ∧ Hid (∀ j, k ≤ j → l.getD j 0 = 0)) (fun i => (intOf i).toNat)
  case atStart => exact ⟨n, Nat.le_refl _, rfl, fun j hj => by rw [List.getD_eq_getElem?_getD, List.getElem?_eq_none (by rw [hlen.out]; exact hj)]; rfl⟩
  case round =>
    obtain ⟨k, hk, rfl, hz⟩ := hrel
    rcases Nat.eq_zero_or_pos k with h0 | h0
    · subst h0
      go_wp2
      go_ret
      exact ⟨rfl, 0, rfl, hk, val_take_zeros hz.out, norm_take (by omega) (.inl rfl)⟩
    · obtain ⟨q, rfl⟩ : ∃ q, k = q + 1 := ⟨k - 1, by omega⟩
      obtain ⟨b, o, x, rfl, hb, hx, hxb, hc⟩ := h.at_ (k := q) (by omega)
      have HX := Lib.hid hx
      clear hx
      go_wp2
      · have e : (x : Int) = 0 := by simpa using (by assumption : ((x : Int) == 0) = true)
        refine ⟨⟨q, by omega, rfl, Lib.hid fun j hj => ?_⟩, by simp [intOf]⟩
        rcases Nat.eq_or_lt_of_le hj with rfl | hj
        · rw [List.getD_eq_getElem?_getD, HX.out]; show x = 0; omega
        · exact hz.out j hj
      · have e : x ≠ 0 := by have := (by assumption : ((x : Int) == 0) = false); simp at this; omega
        go_ret
        refine ⟨rfl, q + 1, rfl, hk, val_take_zeros hz.out, norm_take (by rw [hlen.out]; exact hk) (.inr ?_)⟩
        rw [List.getD_eq_getElem?_getD, Nat.add_sub_cancel, HX.out]; exact e

end Go.Proofs.YtfnibkodccfocaaGreat
