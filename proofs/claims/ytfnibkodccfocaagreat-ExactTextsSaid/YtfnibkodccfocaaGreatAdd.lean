/- The walk of addLimbs: the sum of two numbers, in new memory. -/
import Derived.Test.YtfnibkodccfocaaGreatCompare
namespace Go.Proofs.YtfnibkodccfocaaGreat
open Go.RowKit

theorem add32_h (x y c : Nat) (w : World) (hx : x < 4294967296) (hy : y < 4294967296) (hc : c ≤ 1) :
    Calls Tryz.prog 92 #[.int .u32 (x : Int), .int .u32 (y : Int), .int .u32 (c : Int)] w fun e w' => w = w' ∧
      ∃ s r : Nat, e = .returned (.tuple #[.int .u32 (s : Int), .int .u32 (r : Int)]) ∧ s < 4294967296 ∧ r ≤ 1 ∧ Hid (s + 4294967296 * r = x + y + c) := add32_any x y c w hx hy hc

theorem info_u32 : (Tryz.prog.info? 75).map (fun i => (i.zero, i.size, i.bytes)) = some (some (.int .u32 0), 1, 4) := by kernel_rfl


set_option maxHeartbeats 1000000 in
theorem addLimbs_ge (A A2 : Option Addr) (n c m d : Nat) (a b : List Nat) (w : World) (ha : Lim w w.heap.size A n c a) (hb : Lim w w.heap.size A2 m d b) (hnm : m ≤ n) (hn : n ≤ 1073741824) :
    Calls Tryz.prog 59 #[.slice A n c, .slice A2 m d] w (NatR (val a + val b) w) := by
  have hcap := ha.cap
  have hcap2 := hb.cap
  have hla := Lib.hid ha.len
  have hlb := Lib.hid hb.len
  have hd : decide (n < m) = false := by simpa using hnm
  obtain ⟨i0, hi0, hz0, hz1, hz2⟩ := info_parts info_u32
  have hmk := fun W => make_u32 (P := Tryz.prog) Tryz.underlying22 hi0 hz0 hz1 hz2 (n + 1) ((n : Int) + 1) (by omega) (by omega) W
  have hba := Lib.hid ha.bd
  have hbb := Lib.hid hb.bd
  clear hi0 hz0 hz1 hz2
  go_enter Tryz.func59, Tryz.ntmps59
  go_wp2
  go_loopw [6, 23] (fun cv iv wr => ∃ (k r : Nat) (O : List Nat), k ≤ m ∧ iv = .int .i64 (k : Int) ∧ cv = .int .u32 (r : Int) ∧ r ≤ 1 ∧ Buf wr w.heap.size 75 O ∧ Hid (O.length = n + 1) ∧ Hid (val (O.take k) + W k * r = val (a.take k) + val (b.take k)) ∧ Below w.heap.size w wr)
    (fun _ iv _ => m - (intOf iv).toNat)
  case atStart =>
    exact ⟨0, 0, List.replicate (n + 1) 0, by omega, rfl, rfl, by omega, ⟨Bk.alloc_ _ _ _, Bd.replicate _⟩, by simp [Hid], by simp [Hid, val], (Below.refl _ _).alloc (Nat.le_refl _) _⟩
  case round =>
    obtain ⟨k, r, O, hk, rfl, rfl, hr, hO, hOl, hval, hB⟩ := hrel
    by_cases hlt : k < m
    · obtain ⟨b1, o1, x, rfl, hb1, hx, hxb, hc1⟩ := (ha.below hB (Nat.le_refl _) (Nat.le_refl _)).at_ (k := k) (by omega)
      obtain ⟨b2, o2, y, rfl, hb2, hy, hyb, hc2⟩ := (hb.below hB (Nat.le_refl _) (Nat.le_refl _)).at_ (k := k) hlt
      obtain ⟨z, hz, hc3⟩ := hO.cell (k := k) (by rw [hOl.out]; omega)
      have hf3 := hO.frozen k
      have HX := Lib.hid hx
      have HY := Lib.hid hy
      clear hx hy hz
      go_wp2_with (go_at_call 92; refine (add32_h _ _ _ _ hxb hyb hr).mono ?_; rintro e w' ⟨rfl, s, r', rfl, hs, hr', hsum⟩)
      go_roundw
      case rel =>
        exact ⟨k + 1, r', O.set k s, by omega, by go_num, rfl, hr', hO.set_ k s hs, by show (O.set k s).length = n + 1; rw [List.length_set]; exact hOl.out,
          by show val ((O.set k s).take (k + 1)) + _ = val (a.take (k + 1)) + val (b.take (k + 1)); rw [val_set_take O s (by rw [hOl.out]; omega), val_take_get a HX.out, val_take_get b HY.out]; exact add_col hval.out hsum.out, hB.setCell (by simp) _⟩
      case measure => simp [intOf]; omega
    · obtain rfl : k = m := by omega
      have hvb : Hid (val (b.take k) = val b) := val_take_all hlb.out
      go_wp2
      go_loopw [6, 9] (fun cv iv wr => ∃ (j r : Nat) (O : List Nat), k ≤ j ∧ j ≤ n ∧ iv = .int .i64 (j : Int) ∧ cv = .int .u32 (r : Int) ∧ r ≤ 1 ∧ Buf wr w.heap.size 75 O ∧ Hid (O.length = n + 1) ∧ Hid (val (O.take j) + W j * r = val (a.take j) + val b) ∧ Below w.heap.size w wr)
        (fun _ iv _ => n - (intOf iv).toNat)
      case atStart =>
        exact ⟨k, r, O, Nat.le_refl _, hnm, rfl, rfl, hr, hO, hOl, by rw [← hvb.out]; exact hval, hB⟩
      case round =>
        clear hval hO hB hr hOl
        obtain ⟨j, r, O, hkj, hj, rfl, rfl, hr, hO, hOl, hval, hB⟩ := hrel
        by_cases hlt : j < n
        · obtain ⟨b1, o1, x, rfl, hb1, hx, hxb, hc1⟩ := (ha.below hB (Nat.le_refl _) (Nat.le_refl _)).at_ (k := j) hlt
          obtain ⟨z, hz, hc3⟩ := hO.cell (k := j) (by rw [hOl.out]; omega)
          have hf3 := hO.frozen j
          have HX := Lib.hid hx
          clear hx hz
          go_wp2_with (go_at_call 92; refine (add32_h _ 0 _ _ hxb (by omega) hr).mono ?_; rintro e w' ⟨rfl, s, r', rfl, hs, hr', hsum⟩)
          go_roundw
          case rel =>
            refine ⟨j + 1, r', O.set j s, by omega, by omega, by go_num, rfl, hr', hO.set_ j s hs, ?_, ?_, hB.setCell (by simp) _⟩
            · show (O.set j s).length = n + 1
              rw [List.length_set]; exact hOl.out
            · show val ((O.set j s).take (j + 1)) + _ = val (a.take (j + 1)) + val b
              rw [val_set_take O s (by rw [hOl.out]; omega), val_take_get a HX.out]
              have := add_col (y := 0) hval.out hsum.out
              omega
          case measure => simp [intOf]; omega
        · obtain rfl : j = n := by omega
          obtain ⟨z, hz, hc3⟩ := hO.cell (k := j) (by rw [hOl.out]; omega)
          have hf3 := hO.frozen j
          have hO2 := hO.set_ j r (by omega)
          have hB2 := hB.setCell (p := ⟨w.heap.size, j, none⟩) (Nat.le_refl _) (.int .u32 (r : Int))
          have hlim : Lim (wr.setCell ⟨w.heap.size, j, none⟩ (.int .u32 (r : Int))) wr.heap.size (some ⟨w.heap.size, 0, none⟩) (j + 1) (j + 1) ((O.set j r).take (j + 1)) :=
            hO2.lim hO.lt (by omega) (by omega) (by rw [List.length_set, hOl.out]; omega)
          have HL := Lib.hid hlim
          have HV : Hid (val ((O.set j r).take (j + 1)) = val a + val b) := by
            show _ = _
            rw [val_set_take O r (by rw [hOl.out]; omega), hval.out, val_take_all hla.out]
          clear hz hO2 hlim hval
          go_wp2_with (go_at_call 88; refine (trim_any _ _ _ _ _ _ HL.out).mono ?_; rintro e w' ⟨rfl, q, rfl, hq, hv, hn2⟩)
          go_ret
          exact ⟨hB2, _, q, _, _, rfl, (HL.out.take hq).mono (by simp), hn2, hv.trans HV.out⟩

set_option maxHeartbeats 1000000 in
theorem addLimbs_lt (A A2 : Option Addr) (n c m d : Nat) (a b : List Nat) (w : World) (ha : Lim w w.heap.size A n c a) (hb : Lim w w.heap.size A2 m d b) (hnm : m ≤ n) (hlt0 : m < n) (hn : n ≤ 1073741824) :
    Calls Tryz.prog 59 #[.slice A2 m d, .slice A n c] w (NatR (val a + val b) w) := by
  have hcap := ha.cap
  have hcap2 := hb.cap
  have hla := Lib.hid ha.len
  have hlb := Lib.hid hb.len
  have hd : decide (m < n) = true := by simpa using hlt0
  obtain ⟨i0, hi0, hz0, hz1, hz2⟩ := info_parts info_u32
  have hmk := fun W => make_u32 (P := Tryz.prog) Tryz.underlying22 hi0 hz0 hz1 hz2 (n + 1) ((n : Int) + 1) (by omega) (by omega) W
  have hba := Lib.hid ha.bd
  have hbb := Lib.hid hb.bd
  clear hi0 hz0 hz1 hz2
  go_enter Tryz.func59, Tryz.ntmps59
  go_wp2
  go_loopw [6, 23] (fun cv iv wr => ∃ (k r : Nat) (O : List Nat), k ≤ m ∧ iv = .int .i64 (k : Int) ∧ cv = .int .u32 (r : Int) ∧ r ≤ 1 ∧ Buf wr w.heap.size 75 O ∧ Hid (O.length = n + 1) ∧ Hid (val (O.take k) + W k * r = val (a.take k) + val (b.take k)) ∧ Below w.heap.size w wr)
    (fun _ iv _ => m - (intOf iv).toNat)
  case atStart =>
    exact ⟨0, 0, List.replicate (n + 1) 0, by omega, rfl, rfl, by omega, ⟨Bk.alloc_ _ _ _, Bd.replicate _⟩, by simp [Hid], by simp [Hid, val], (Below.refl _ _).alloc (Nat.le_refl _) _⟩
  case round =>
    obtain ⟨k, r, O, hk, rfl, rfl, hr, hO, hOl, hval, hB⟩ := hrel
    by_cases hlt : k < m
    · obtain ⟨b1, o1, x, rfl, hb1, hx, hxb, hc1⟩ := (ha.below hB (Nat.le_refl _) (Nat.le_refl _)).at_ (k := k) (by omega)
      obtain ⟨b2, o2, y, rfl, hb2, hy, hyb, hc2⟩ := (hb.below hB (Nat.le_refl _) (Nat.le_refl _)).at_ (k := k) hlt
      obtain ⟨z, hz, hc3⟩ := hO.cell (k := k) (by rw [hOl.out]; omega)
      have hf3 := hO.frozen k
      have HX := Lib.hid hx
      have HY := Lib.hid hy
      clear hx hy hz
      go_wp2_with (go_at_call 92; refine (add32_h _ _ _ _ hxb hyb hr).mono ?_; rintro e w' ⟨rfl, s, r', rfl, hs, hr', hsum⟩)
      go_roundw
      case rel =>
        exact ⟨k + 1, r', O.set k s, by omega, by go_num, rfl, hr', hO.set_ k s hs, by show (O.set k s).length = n + 1; rw [List.length_set]; exact hOl.out,
          by show val ((O.set k s).take (k + 1)) + _ = val (a.take (k + 1)) + val (b.take (k + 1)); rw [val_set_take O s (by rw [hOl.out]; omega), val_take_get a HX.out, val_take_get b HY.out]; exact add_col hval.out hsum.out, hB.setCell (by simp) _⟩
      case measure => simp [intOf]; omega
    · obtain rfl : k = m := by omega
      have hvb : Hid (val (b.take k) = val b) := val_take_all hlb.out
      go_wp2
      go_loopw [6, 9] (fun cv iv wr => ∃ (j r : Nat) (O : List Nat), k ≤ j ∧ j ≤ n ∧ iv = .int .i64 (j : Int) ∧ cv = .int .u32 (r : Int) ∧ r ≤ 1 ∧ Buf wr w.heap.size 75 O ∧ Hid (O.length = n + 1) ∧ Hid (val (O.take j) + W j * r = val (a.take j) + val b) ∧ Below w.heap.size w wr)
        (fun _ iv _ => n - (intOf iv).toNat)
      case atStart =>
        exact ⟨k, r, O, Nat.le_refl _, hnm, rfl, rfl, hr, hO, hOl, by rw [← hvb.out]; exact hval, hB⟩
      case round =>
        clear hval hO hB hr hOl
        obtain ⟨j, r, O, hkj, hj, rfl, rfl, hr, hO, hOl, hval, hB⟩ := hrel
        by_cases hlt : j < n
        · obtain ⟨b1, o1, x, rfl, hb1, hx, hxb, hc1⟩ := (ha.below hB (Nat.le_refl _) (Nat.le_refl _)).at_ (k := j) hlt
          obtain ⟨z, hz, hc3⟩ := hO.cell (k := j) (by rw [hOl.out]; omega)
          have hf3 := hO.frozen j
          have HX := Lib.hid hx
          clear hx hz
          go_wp2_with (go_at_call 92; refine (add32_h _ 0 _ _ hxb (by omega) hr).mono ?_; rintro e w' ⟨rfl, s, r', rfl, hs, hr', hsum⟩)
          go_roundw
          case rel =>
            refine ⟨j + 1, r', O.set j s, by omega, by omega, by go_num, rfl, hr', hO.set_ j s hs, ?_, ?_, hB.setCell (by simp) _⟩
            · show (O.set j s).length = n + 1
              rw [List.length_set]; exact hOl.out
            · show val ((O.set j s).take (j + 1)) + _ = val (a.take (j + 1)) + val b
              rw [val_set_take O s (by rw [hOl.out]; omega), val_take_get a HX.out]
              have := add_col (y := 0) hval.out hsum.out
              omega
          case measure => simp [intOf]; omega
        · obtain rfl : j = n := by omega
          obtain ⟨z, hz, hc3⟩ := hO.cell (k := j) (by rw [hOl.out]; omega)
          have hf3 := hO.frozen j
          have hO2 := hO.set_ j r (by omega)
          have hB2 := hB.setCell (p := ⟨w.heap.size, j, none⟩) (Nat.le_refl _) (.int .u32 (r : Int))
          have hlim : Lim (wr.setCell ⟨w.heap.size, j, none⟩ (.int .u32 (r : Int))) wr.heap.size (some ⟨w.heap.size, 0, none⟩) (j + 1) (j + 1) ((O.set j r).take (j + 1)) :=
            hO2.lim hO.lt (by omega) (by omega) (by rw [List.length_set, hOl.out]; omega)
          have HL := Lib.hid hlim
          have HV : Hid (val ((O.set j r).take (j + 1)) = val a + val b) := by
            show _ = _
            rw [val_set_take O r (by rw [hOl.out]; omega), hval.out, val_take_all hla.out]
          clear hz hO2 hlim hval
          go_wp2_with (go_at_call 88; refine (trim_any _ _ _ _ _ _ HL.out).mono ?_; rintro e w' ⟨rfl, q, rfl, hq, hv, hn2⟩)
          go_ret
          exact ⟨hB2, _, q, _, _, rfl, (HL.out.take hq).mono (by simp), hn2, hv.trans HV.out⟩

theorem addLimbs_any (A A2 : Option Addr) (n c m d : Nat) (a b : List Nat) (w : World) (ha : Lim w w.heap.size A n c a) (hb : Lim w w.heap.size A2 m d b) (hn : n ≤ 1073741824) (hm : m ≤ 1073741824) :
    Calls Tryz.prog 59 #[.slice A n c, .slice A2 m d] w (NatR (val a + val b) w) := by
  rcases Nat.lt_or_ge n m with h | h
  · have := addLimbs_lt A2 A m d n c b a w hb ha (by omega) h hm
    rwa [Nat.add_comm (val b)] at this
  · exact addLimbs_ge A A2 n c m d a b w ha hb h hn

end Go.Proofs.YtfnibkodccfocaaGreat
