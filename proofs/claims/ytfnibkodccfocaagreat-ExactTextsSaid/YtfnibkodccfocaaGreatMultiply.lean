/- The walk of multiplyLimbs: the product of two numbers, in new memory. -/
import Derived.Test.YtfnibkodccfocaaGreatTimes
namespace Go.Proofs.YtfnibkodccfocaaGreat
open Go.RowKit

/-- One round of a product: O becomes what addTimes leaves, with the carry behind it. -/
theorem mul_round {O P : List Nat} {k m x r V Bv : Nat} (hO : k + m < O.length) (hP : P.length = m) (hv : val (O.take (k + m)) = V * Bv) (h : val P + W m * r = val ((O.drop k).take m) + x * Bv) :
    val (((O.take k ++ P ++ O.drop (k + m)).set (k + m) r).take (k + 1 + m)) = (V + W k * x) * Bv := by
  have hl : (O.take k).length = k := by rw [List.length_take]; omega
  have hlen : (O.take k ++ P ++ O.drop (k + m)).length = O.length := by simp [hP]; omega
  rw [show k + 1 + m = (k + m) + 1 from by omega, val_set_take _ r (by rw [hlen]; exact hO)]
  have e : (O.take k ++ P ++ O.drop (k + m)).take (k + m) = O.take k ++ P := by
    rw [List.take_append_of_le_length (by rw [List.length_append, hl, hP]; exact Nat.le_refl _), List.take_of_length_le (by rw [List.length_append, hl, hP]; exact Nat.le_refl _)]
  have h0 : val (O.take (k + m)) = val (O.take k) + W k * val ((O.drop k).take m) := by
    rw [val_take_drop (O.take (k + m)) k (by rw [List.length_take]; omega), List.take_take, Nat.min_eq_left (by omega), List.drop_take, Nat.add_sub_cancel_left]
  rw [e, val_append, hl, W_add, Nat.mul_assoc, Nat.add_assoc, ← Nat.mul_add, h, Nat.mul_add, ← Nat.add_assoc, ← h0, hv, Nat.add_mul, Nat.mul_assoc (W k)]

set_option maxHeartbeats 1000000 in
theorem multiplyLimbs_any (A A2 : Option Addr) (n c m d : Nat) (a b : List Nat) (w : World) (ha : Lim w w.heap.size A n c a) (hb : Lim w w.heap.size A2 m d b) (hn : n ≤ 536870912) (hm : m ≤ 536870912) :
    Calls Tryz.prog 65 #[.slice A n c, .slice A2 m d] w (NatR (val a * val b) w) := by
  have hcap := ha.cap
  have hcap2 := hb.cap
  have hla := Lib.hid ha.len
  have hlb := Lib.hid hb.len
  obtain ⟨i0, hi0, hz0, hz1, hz2⟩ := info_parts info_u32
  have hmk := fun W => make_u32 (P := Tryz.prog) Tryz.underlying22 hi0 hz0 hz1 hz2 (n + m) ((n : Int) + (m : Int)) (by omega) (by omega) W
  clear hi0 hz0 hz1 hz2
  rcases Nat.eq_zero_or_pos n with h0 | h0
  · have hd : ((n : Int) == 0) = true := by simp [h0]
    have HV : Hid (val a * val b = 0) := by
      have : a = [] := List.eq_nil_of_length_eq_zero (by rw [hla.out, h0])
      rw [this, val_nil, Nat.zero_mul]; rfl
    clear ha hb
    go_enter Tryz.func65, Tryz.ntmps65
    go_wp2
    go_ret
    exact ⟨Below.refl _ _, none, 0, 0, [], rfl, Lim.nil_ _ _, norm_nil, HV.out.symm⟩
  · have hd : ((n : Int) == 0) = false := by simp; omega
    rcases Nat.eq_zero_or_pos m with h1 | h1
    · have hd2 : ((m : Int) == 0) = true := by simp [h1]
      have HV : Hid (val a * val b = 0) := by
        have : b = [] := List.eq_nil_of_length_eq_zero (by rw [hlb.out, h1])
        rw [this, val_nil, Nat.mul_zero]; rfl
      clear ha hb
      go_enter Tryz.func65, Tryz.ntmps65
      go_wp2
      go_ret
      exact ⟨Below.refl _ _, none, 0, 0, [], rfl, Lim.nil_ _ _, norm_nil, HV.out.symm⟩
    · have hd2 : ((m : Int) == 0) = false := by simp; omega
      go_enter Tryz.func65, Tryz.ntmps65
      go_wp2
      go_loopw [24] (fun iv wr => ∃ (k : Nat) (O : List Nat), k ≤ n ∧ iv = .int .i64 (k : Int) ∧ Buf wr w.heap.size 75 O ∧ Hid (O.length = n + m) ∧ Hid (val (O.take (k + m)) = val (a.take k) * val b) ∧ Below w.heap.size w wr)
        (fun iv _ => n - (intOf iv).toNat)
      case atStart =>
        refine ⟨0, List.replicate (n + m) 0, by omega, rfl, ⟨Bk.alloc_ _ _ _, Bd.replicate _⟩, List.length_replicate, ?_, (Below.refl _ _).alloc (Nat.le_refl _) _⟩
        show val ((List.replicate (n + m) 0).take (0 + m)) = val (a.take 0) * val b
        rw [List.take_replicate, val_replicate, List.take_zero, val_nil, Nat.zero_mul]
      case round =>
        obtain ⟨k, O, hk, rfl, hO, hOl, hval, hB⟩ := hrel
        by_cases hlt : k < n
        · obtain ⟨b1, o1, x, rfl, hb1, hx, hxb, hc1⟩ := (ha.below hB (Nat.le_refl _) (Nat.le_refl _)).at_ (k := k) hlt
          have hbl := hb.below hB (Nat.le_refl _) (Nat.le_refl _)
          have HB := Lib.hid hbl
          have HX := Lib.hid hx
          clear hx hbl
          go_wp2_with (go_at_call 96; refine (addTimes_any w.heap.size k _ m d x A2 O b _ hO (by rw [hOl.out]; omega) HB.out hxb (by omega) (by omega)).mono ?_; rintro e w' ⟨r, P, rfl, hr, hP, hO2, hv2, hon⟩; have hP' := Lib.hid hP; have hv' := Lib.hid hv2; clear hP hv2; obtain ⟨z, hz, hc3⟩ := hO2.cell (k := k + m) (by simp [hP'.out, hOl.out]; omega); have hf3 := hO2.frozen (k + m); clear hz)
          go_roundw
          case rel =>
            refine ⟨k + 1, (O.take k ++ P ++ O.drop (k + m)).set (k + m) r, by omega, by go_num, hO2.set_ _ _ hr, ?_, ?_, (hB.trans (hon.below (Nat.le_refl _))).setCell (by simp) _⟩
            · show _ = n + m
              rw [List.length_set]; simp [hP'.out, hOl.out]; omega
            · show _ = val (a.take (k + 1)) * val b
              rw [val_take_get a HX.out]
              exact mul_round (by rw [hOl.out]; omega) hP'.out hval.out hv'.out
          case measure => simp [intOf]; omega
        · obtain rfl : k = n := by omega
          have hlim : Lim wr wr.heap.size (some ⟨w.heap.size, 0, none⟩) (k + m) (k + m) (O.take (k + m)) := hO.lim hO.lt (by omega) (by omega) (by rw [hOl.out]; exact Nat.le_refl _)
          have HL := Lib.hid hlim
          have HV : Hid (val (O.take (k + m)) = val a * val b) := by
            have := hval.out
            rwa [val_take_all hla.out] at this
          clear hlim hval
          go_wp2_with (go_at_call 88; refine (trim_any _ _ _ _ _ _ HL.out).mono ?_; rintro e w' ⟨rfl, q, rfl, hq, hv, hn2⟩)
          go_ret
          exact ⟨hB, _, q, _, _, rfl, HL.out.take hq, hn2, hv.trans HV.out⟩

end Go.Proofs.YtfnibkodccfocaaGreat
