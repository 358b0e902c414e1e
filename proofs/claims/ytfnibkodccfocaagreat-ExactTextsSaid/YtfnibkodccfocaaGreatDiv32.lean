/- The walks of math/bits.Div32 and of sized. -/
import Derived.Test.YtfnibkodccfocaaGreatAdd
import Derived.Test.YtfnibkodccfocaaGreatOwn
import Derived.Laws.BitsAllLaws
namespace Go.Proofs.YtfnibkodccfocaaGreat
open Go.RowKit

theorem or_u64 (h l : Nat) (hh : h < 4294967296) (hl : l < 4294967296) : bits .or .u64 ((h : Int) * 4294967296) (l : Int) = (h : Int) * 4294967296 + (l : Int) := by
  have e : (h : Int) * 4294967296 = ((h * 4294967296 : Nat) : Int) := by simp
  rw [e, u64_or_nat _ _ (by omega) (by omega), nat_join 32 _ _ (by omega) hl]
  simp

theorem div_parts {h l y : Nat} (hl : l < 4294967296) (hy : y < 4294967296) (hh : h < y) :
    ∃ q r : Nat, ((h : Int) * 4294967296 + l) / y % 4294967296 = q ∧ ((h : Int) * 4294967296 + l) % y % 4294967296 = r ∧ q < 4294967296 ∧ r < y ∧ h * 4294967296 + l = q * y + r := by
  have e : (h : Int) * 4294967296 + l = ((h * 4294967296 + l : Nat) : Int) := by simp
  have hq : (h * 4294967296 + l) / y < 4294967296 := by
    apply Nat.div_lt_of_lt_mul
    have : (h + 1) * 4294967296 ≤ y * 4294967296 := Nat.mul_le_mul_right _ hh
    omega
  have hr : (h * 4294967296 + l) % y < y := Nat.mod_lt _ (by omega)
  refine ⟨(h * 4294967296 + l) / y, (h * 4294967296 + l) % y, ?_, ?_, hq, hr, ?_⟩
  · rw [e, ← Int.natCast_ediv]
    generalize (h * 4294967296 + l) / y = q at hq
    omega
  · rw [e, ← Int.natCast_emod]
    generalize (h * 4294967296 + l) % y = r at hr
    omega
  · have := Nat.div_add_mod (h * 4294967296 + l) y
    rw [Nat.mul_comm y] at this
    omega

set_option maxHeartbeats 1000000 in
theorem div32_any (h l y : Nat) (w : World) (hl : l < 4294967296) (hy : y < 4294967296) (hh : h < y) :
    Calls Tryz.prog 125 #[.int .u32 (h : Int), .int .u32 (l : Int), .int .u32 (y : Int)] w fun e w' =>
      (∃ q r : Nat, e = .returned (.tuple #[.int .u32 (q : Int), .int .u32 (r : Int)]) ∧ q < 4294967296 ∧ r < y ∧ Hid (h * 4294967296 + l = q * y + r)) ∧ ∃ k, w' = w.drewN k := by
  have h1 : ((y : Int) != 0) = true := by simp; omega
  have h2 : decide (y ≤ h) = false := by simpa using hh
  have h3 := or_u64 h l (by omega) hl
  have h4 : 0 ≤ (h : Int) * 4294967296 + (l : Int) := by omega
  have h5 : 0 < (y : Int) := by omega
  have h6 : ((y : Int) == 0) = false := by simp; omega
  go_enter Tryz.func125, Tryz.ntmps125
  go_wp2
  go_quiet (fail)
  go_wp2
  go_ret2
  obtain ⟨q, r, e1, e2, hq, hr, hsum⟩ := div_parts hl hy hh
  exact ⟨⟨q, r, ret_int2 e1 e2, hq, hr, hsum⟩, _, rfl⟩

theorem sized_new (A : Option Addr) (n c : Nat) (m : Nat) (w : World) (h : c < m) (hm : m ≤ 1099511627776) :
    Calls Tryz.prog 119 #[.slice A n c, .int .i64 (m : Int)] w fun e w' => e = .returned (.slice (some ⟨w.heap.size, 0, none⟩) m m) ∧ w' = w.alloc (.cells (u32s (List.replicate m 0)).toArray 75) := by
  obtain ⟨i0, hi0, hz0, hz1, hz2⟩ := info_parts info_u32
  have hmk := fun W => make_u32 (P := Tryz.prog) Tryz.underlying22 hi0 hz0 hz1 hz2 m (m : Int) rfl hm W
  clear hi0 hz0 hz1 hz2
  have hd : decide (c < m) = true := by simpa using h
  go_enter Tryz.func119, Tryz.ntmps119
  go_wp2
  go_ret
  exact ⟨rfl, rfl⟩

theorem sized_same (A : Option Addr) (n c : Nat) (m : Nat) (w : World) (h : m ≤ c) :
    Calls Tryz.prog 119 #[.slice A n c, .int .i64 (m : Int)] w fun e w' => e = .returned (.slice A m c) ∧ w = w' := by
  have hd : decide (c < m) = false := by simpa using h
  go_enter Tryz.func119, Tryz.ntmps119
  go_wp2
  go_ret
  exact ⟨rfl, rfl⟩

end Go.Proofs.YtfnibkodccfocaaGreat
