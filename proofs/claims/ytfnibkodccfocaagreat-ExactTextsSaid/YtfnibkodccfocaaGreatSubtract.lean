/- The walk of subtractLimbs: the difference of two numbers, the second not the greater one, in new memory. -/
import Derived.Test.YtfnibkodccfocaaGreatSub32
import Derived.Test.YtfnibkodccfocaaGreatAdd
namespace Go.Proofs.YtfnibkodccfocaaGreat
open Go.RowKit


set_option maxHeartbeats 1000000 in
theorem subtractLimbs_any (A A2 : Option Addr) (n c m d : Nat) (a b : List Nat) (w : World) (ha : Lim w w.heap.size A n c a) (hb : Lim w w.heap.size A2 m d b) (hle : val b ≤ val a) (nb : Norm b) (hn : n ≤ 1073741824) :
    Calls Tryz.prog 61 #[.slice A n c, .slice A2 m d] w (NatR (val a - val b) w) := by
  have hcap := ha.cap
  have hcap2 := hb.cap
  have hla := Lib.hid ha.len
  have hlb := Lib.hid hb.len
  have hnm : m ≤ n := by
    rcases Nat.lt_or_ge n m with h | h
    · have := norm_len_lt ha.bd nb (by rw [hla.out, hlb.out]; exact h)
      omega
    · exact h
  clear nb
  obtain ⟨i0, hi0, hz0, hz1, hz2⟩ := info_parts info_u32
  have hmk := fun W => make_u32 (P := Tryz.prog) Tryz.underlying22 hi0 hz0 hz1 hz2 n (n : Int) rfl (by omega) W
  have hba := Lib.hid ha.bd
  have hbb := Lib.hid hb.bd
  clear hi0 hz0 hz1 hz2
  go_enter Tryz.func61, Tryz.ntmps61
  go_wp2
  go_loopw [6, 15] (fun cv iv wr => ∃ (k r : Nat) (O : List Nat), k ≤ m ∧ iv = .int .i64 (k : Int) ∧ cv = .int .u32 (r : Int) ∧ r ≤ 1 ∧ Buf wr w.heap.size 75 O ∧ Hid (O.length = n) ∧ Hid (val (O.take k) + val (b.take k) = val (a.take k) + W k * r) ∧ Below w.heap.size w wr)
    (fun _ iv _ => m - (intOf iv).toNat)
  case atStart =>
    exact ⟨0, 0, List.replicate n 0, by omega, rfl, rfl, by omega, ⟨Bk.alloc_ _ _ _, Bd.replicate _⟩, by simp [Hid], by simp [Hid, val], (Below.refl _ _).alloc (Nat.le_refl _) _⟩
  case round =>
    obtain ⟨k, r, O, hk, rfl, rfl, hr, hO, hOl, hval, hB⟩ := hrel
    by_cases hlt : k < m
    · obtain ⟨b1, o1, x, rfl, hb1, hx, hxb, hc1⟩ := (ha.below hB (Nat.le_refl _) (Nat.le_refl _)).at_ (k := k) (by omega)
      obtain ⟨b2, o2, y, rfl, hb2, hy, hyb, hc2⟩ := (hb.below hB (Nat.le_refl _) (Nat.le_refl _)).at_ (k := k) hlt
      obtain ⟨z, hz, hc3⟩ := hO.cell (k := k) (by rw [hOl.out]; omega)
      have hf3 := hO.frozen k
      have HX := Lib.hid hx
      have HY := Lib.hid hy
      clear hx hy hz
      go_wp2_with (go_at_call 95; refine (sub32_any _ _ _ _ hxb hyb hr).mono ?_; rintro e w' ⟨rfl, s, r', rfl, hs, hr', hsum⟩)
      go_roundw
      case rel =>
        exact ⟨k + 1, r', O.set k s, by omega, by go_num, rfl, hr', hO.set_ k s hs, by show (O.set k s).length = n; rw [List.length_set]; exact hOl.out,
          by show val ((O.set k s).take (k + 1)) + val (b.take (k + 1)) = val (a.take (k + 1)) + _; rw [val_set_take O s (by rw [hOl.out]; omega), val_take_get a HX.out, val_take_get b HY.out]; exact sub_col hval.out hsum.out, hB.setCell (by simp) _⟩
      case measure => simp [intOf]; omega
    · obtain rfl : k = m := by omega
      have hvb : Hid (val (b.take k) = val b) := val_take_all hlb.out
      go_wp2
      go_loopw [6, 9] (fun cv iv wr => ∃ (j r : Nat) (O : List Nat), k ≤ j ∧ j ≤ n ∧ iv = .int .i64 (j : Int) ∧ cv = .int .u32 (r : Int) ∧ r ≤ 1 ∧ Buf wr w.heap.size 75 O ∧ Hid (O.length = n) ∧ Hid (val (O.take j) + val b = val (a.take j) + W j * r) ∧ Below w.heap.size w wr)
        (fun _ iv _ => n - (intOf iv).toNat)
      case atStart =>
        exact ⟨k, r, O, Nat.le_refl _, hnm, rfl, rfl, hr, hO, hOl, by rw [← hvb.out]; exact hval, hB⟩
      case round =>
        clear hval hO hB hr hOl
        obtain ⟨j, r, O, hkj, hj, rfl, rfl, hr, hO, hOl, hval, hB⟩ := hrel
        by_cases hlt : j < n
        · obtain ⟨b1, o1, x, rfl, hb1, hx, hxb, hc1⟩ := (ha.below hB (Nat.le_refl _) (Nat.le_refl _)).at_ (k := j) hlt
          obtain ⟨z, hz, hc3⟩ := hO.cell (k := j) (by rw [hOl.out]; omega)
          have hf3 := hO.frozen j
          have HX := Lib.hid hx
          clear hx hz
          go_wp2_with (go_at_call 95; refine (sub32_any _ 0 _ _ hxb (by omega) hr).mono ?_; rintro e w' ⟨rfl, s, r', rfl, hs, hr', hsum⟩)
          go_roundw
          case rel =>
            refine ⟨j + 1, r', O.set j s, by omega, by omega, by go_num, rfl, hr', hO.set_ j s hs, ?_, ?_, hB.setCell (by simp) _⟩
            · show (O.set j s).length = n
              rw [List.length_set]; exact hOl.out
            · show val ((O.set j s).take (j + 1)) + val b = val (a.take (j + 1)) + _
              rw [val_set_take O s (by rw [hOl.out]; omega), val_take_get a HX.out]
              have := sub_col (y := 0) hval.out hsum.out
              omega
          case measure => simp [intOf]; omega
        · obtain rfl : j = n := by omega
          have hlim : Lim wr wr.heap.size (some ⟨w.heap.size, 0, none⟩) j j (O.take j) := hO.lim hO.lt (by omega) (by omega) (by rw [hOl.out]; exact Nat.le_refl _)
          have HL := Lib.hid hlim
          have HV : Hid (val (O.take j) = val a - val b) := by
            have h1 := hval.out
            rw [val_take_all hla.out] at h1
            have h2 := val_lt (hO.bd.take j)
            rw [List.length_take, hOl.out, Nat.min_self] at h2
            show _ = _
            rcases Nat.eq_zero_or_pos r with h3 | h3
            · subst h3; omega
            · have : W j * 1 ≤ W j * r := Nat.mul_le_mul_left _ h3
              omega
          clear hlim hval
          go_wp2_with (go_at_call 88; refine (trim_any _ _ _ _ _ _ HL.out).mono ?_; rintro e w' ⟨rfl, q, rfl, hq, hv, hn2⟩)
          go_ret
          exact ⟨hB, _, q, _, _, rfl, HL.out.take hq, hn2, hv.trans HV.out⟩

end Go.Proofs.YtfnibkodccfocaaGreat
