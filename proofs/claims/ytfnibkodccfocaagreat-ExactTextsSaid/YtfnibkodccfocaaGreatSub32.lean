/- The walk of math/bits.Sub32: the difference of two words and the borrow. -/
import Derived.Test.YtfnibkodccfocaaGreatLeaf
import Derived.Laws.BitsAllLaws
namespace Go.Proofs.YtfnibkodccfocaaGreat
open Go.RowKit

theorem borrow_nat (x y c d : Nat) (hx : x < 4294967296) (hy : y < 4294967296) (hc : c ≤ 1) (hd : d < 4294967296) (r : Nat) (hr : d + y + c = x + 4294967296 * r) :
    (((4294967295 ^^^ x) &&& y) ||| ((4294967295 ^^^ (x ^^^ y)) &&& d)) / 2147483648 = r := by
  rw [show (2147483648 : Nat) = 2 ^ 31 from rfl, Nat.or_div_two_pow, Nat.and_div_two_pow, Nat.and_div_two_pow, Nat.xor_div_two_pow, Nat.xor_div_two_pow, Nat.xor_div_two_pow,
    show (4294967295 : Nat) / 2 ^ 31 = 1 from rfl, show (2 : Nat) ^ 31 = 2147483648 from rfl]
  have h1 : x / 2147483648 = 0 ∨ x / 2147483648 = 1 := by omega
  have h2 : y / 2147483648 = 0 ∨ y / 2147483648 = 1 := by omega
  have h3 : d / 2147483648 = 0 ∨ d / 2147483648 = 1 := by omega
  rcases h1 with h1 | h1 <;> rcases h2 with h2 | h2 <;> rcases h3 with h3 | h3 <;> rw [h1, h2, h3]
  · show 0 = r; omega
  · show 1 = r; omega
  · show 1 = r; omega
  · show 1 = r; omega
  · show 0 = r; omega
  · show 0 = r; omega
  · show 0 = r; omega
  · show 1 = r; omega

theorem borrow_int (x y c d : Nat) (hx : x < 4294967296) (hy : y < 4294967296) (hc : c ≤ 1) (hd : d < 4294967296) (r : Nat) (hr : d + y + c = x + 4294967296 * r) :
    bits .or .u32 (bits .and .u32 (bits .xor .u32 IntKind.u32.max (x : Int)) (y : Int)) (bits .and .u32 (bits .xor .u32 IntKind.u32.max (bits .xor .u32 (x : Int) (y : Int))) (d : Int)) / 2147483648 = (r : Int) := by
  have hm : IntKind.u32.max = ((4294967295 : Nat) : Int) := rfl
  have b1 : x ^^^ y < 4294967296 := Nat.xor_lt_two_pow (n := 32) hx hy
  have b2 : 4294967295 ^^^ x < 4294967296 := Nat.xor_lt_two_pow (n := 32) (by omega) hx
  have b3 : 4294967295 ^^^ (x ^^^ y) < 4294967296 := Nat.xor_lt_two_pow (n := 32) (by omega) b1
  have b4 : (4294967295 ^^^ x) &&& y < 4294967296 := Nat.and_lt_two_pow (n := 32) _ hy
  have b5 : (4294967295 ^^^ (x ^^^ y)) &&& d < 4294967296 := Nat.and_lt_two_pow (n := 32) _ hd
  rw [hm, u32_xor_nat _ _ (by omega) hx, u32_and_nat _ _ b2 hy, u32_xor_nat _ _ hx hy, u32_xor_nat _ _ (by omega) b1, u32_and_nat _ _ b3 hd, u32_or_nat _ _ b4 b5]
  have := borrow_nat x y c d hx hy hc hd r hr
  omega

set_option maxHeartbeats 400000 in
theorem sub32_any (x y c : Nat) (w : World) (hx : x < 4294967296) (hy : y < 4294967296) (hc : c ≤ 1) :
    Calls Tryz.prog 95 #[.int .u32 (x : Int), .int .u32 (y : Int), .int .u32 (c : Int)] w fun e w' => w = w' ∧
      ∃ s r : Nat, e = .returned (.tuple #[.int .u32 (s : Int), .int .u32 (r : Int)]) ∧ s < 4294967296 ∧ r ≤ 1 ∧ Hid (s + y + c = x + 4294967296 * r) := by
  go_enter Tryz.func95, Tryz.ntmps95
  go_wp2
  go_ret2
  obtain ⟨d, r, hd, hr, h1, h2⟩ : ∃ d r : Nat, d < 4294967296 ∧ r ≤ 1 ∧ ((x : Int) - y - c) % 4294967296 = d ∧ d + y + c = x + 4294967296 * r :=
    ⟨(((x : Int) - y - c) % 4294967296).toNat, if x < y + c then 1 else 0, by omega, by split <;> omega, by omega, by split <;> omega⟩
  exact ⟨rfl, d, r, ret_int2 h1 (by rw [h1]; exact borrow_int x y c d hx hy hc hd r h2), hd, hr, h2⟩

end Go.Proofs.YtfnibkodccfocaaGreat
