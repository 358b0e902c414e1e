/- Walks: lengthOf, Length, CheckClosing of both sides. -/
import Derived.Test.YtkcbfkflkepfeaaCloErr
namespace Go.Proofs.Ytkcbfkflkepfeaa
open Go.RowKit

theorem sum_take {l : List Int} {k : Nat} {x : Int} (h : l[k]? = some x) : sumTo l (k + 1) = sumTo l k + x := by simp only [sumTo, getD_of h]

set_option maxHeartbeats 4000000 in
theorem lenOf_any (B B2 : Option Addr) (m d m2 d2 : Nat) (lb lo : List Int) (w : World) (hc : CloAt w w.heap.size B m d B2 m2 d2 lb lo) (hsa : Small lb) (hsb : Small lo) (hm : m ≤ 4000) (hm2 : m2 ≤ 4000) :
    Calls Try.prog 37 #[.agg #[.slice B m d, .slice B2 m2 d2]] w fun e w' => Below w.heap.size w w' ∧ e = .returned (.int .i64 (cloLen lb lo)) := by
  have HCL : Hid (∀ w', Below w.heap.size w w' → CloAt w' w.heap.size B m d B2 m2 d2 lb lo) := fun w' hb => hc.below hb (Nat.le_refl _) (Nat.le_refl _)
  have hcapC := hc.a.nums.cap
  have hmaxC := hc.a.nums.max
  have hcapD := hc.b.nums.cap
  have hmaxD := hc.b.nums.max
  have HLC := Lib.hid hc.a.nums.len
  have HLD := Lib.hid hc.b.nums.len
  clear hc
  have hsz := sumTo_bd hsa lb.length (Nat.le_refl _)
  obtain ⟨z1, z2⟩ := hsz
  have HSZ : Hid (cloLen lb lo = sumTo lb lb.length + sumTo lo lo.length) := Lib.hid rfl
  rw [HLC.out] at z1 z2 HSZ
  rw [HLD.out] at HSZ
  go_enter Try.func37, Try.ntmps37
  go_wp2
  go_loopw [3, 11] (fun s i wr => ∃ k : Nat, k ≤ m ∧ i = .int .i64 k ∧ s = .int .i64 (sumTo lb k) ∧ Bk wr w.heap.size 26 #[.slice B m d, .slice B2 m2 d2] ∧ Below w.heap.size w wr) (fun _ i _ => m - (intOf i).toNat)
  case atStart => exact ⟨0, Nat.zero_le _, rfl, rfl, Bk.alloc_ w _ _, Below.alloc2 (Below.refl _ _) _⟩
  case round =>
    obtain ⟨k, hk, rfl, rfl, hbk, hb⟩ := hrel
    have HBK := Lib.hid hbk
    have HB := Lib.hid hb
    obtain ⟨e0, e1⟩ := hbk.pair
    have ow := hb.size
    by_cases hlt : k < m
    · obtain ⟨b, o, x, rfl, hbb, hx, d0⟩ := (HCL.out _ hb).a.nums.at_ hlt
      have hxb := hsa x (List.mem_of_getElem? hx)
      have hsb := sumTo_bd hsa k (by rw [HLC.out]; omega)
      have HST := Lib.hid (sum_take hx)
      obtain ⟨x1, x2⟩ := hxb
      obtain ⟨s1, s2⟩ := hsb
      have ob : b < wr.heap.size := by omega
      have hkz : (k : Int) ≤ 4000 := by omega
      clear hx hb hbk hbb
      generalize sumTo lb k = t at *
      have hw : IntKind.i64.wrap (t + x) = t + x := IntWalk.i64_in _ (by omega)
      go_wp2
      go_roundw
      case rel => exact ⟨k + 1, by omega, by go_num, congrArg (Value.int .i64) (by have := HST.out; omega), HBK.out, HB.out⟩
      case measure => simp [intOf]; omega
    · have e : m = k := by omega
      subst e
      clear hb hbk
      go_wp2
      have HB1 := HB
      have HBK1 := HBK
      clear HB HBK e0 e1 hk
      have z3 : 0 ≤ sumTo lb m := z1
      have z4 : sumTo lb m ≤ 40000000 := by omega
      generalize sumTo lb m = S at *
      go_loopw [3, 22] (fun s i wr => ∃ k : Nat, k ≤ m2 ∧ i = .int .i64 k ∧ s = .int .i64 (S + sumTo lo k) ∧ Bk wr w.heap.size 26 #[.slice B m d, .slice B2 m2 d2] ∧ Below w.heap.size w wr) (fun _ i _ => m2 - (intOf i).toNat)
      case atStart => exact ⟨0, Nat.zero_le _, rfl, by simp [sumTo], HBK1.out, HB1.out⟩
      case round =>
        obtain ⟨k, hk, rfl, rfl, hbk, hb⟩ := hrel
        have HBK := Lib.hid hbk
        have HB := Lib.hid hb
        obtain ⟨e0, e1⟩ := hbk.pair
        have ow := hb.size
        by_cases hlt : k < m2
        · obtain ⟨b, o, x, rfl, hbb, hx, d0⟩ := (HCL.out _ hb).b.nums.at_ hlt
          have hxb := hsb x (List.mem_of_getElem? hx)
          have hsb := sumTo_bd hsb k (by rw [HLD.out]; omega)
          have HST := Lib.hid (sum_take hx)
          obtain ⟨x1, x2⟩ := hxb
          obtain ⟨s1, s2⟩ := hsb
          have ob : b < wr.heap.size := by omega
          have hkz : (k : Int) ≤ 4000 := by omega
          clear hx hb hbk hbb
          generalize sumTo lo k = t at *
          have hw : IntKind.i64.wrap (S + t + x) = S + t + x := IntWalk.i64_in _ (by omega)
          go_wp2
          go_roundw
          case rel => exact ⟨k + 1, by omega, by go_num, congrArg (Value.int .i64) (by have := HST.out; omega), HBK.out, HB.out⟩
          case measure => simp [intOf]; omega
        · have e : m2 = k := by omega
          subst e
          clear hb hbk
          go_wp2
          go_ret
          exact ⟨HB.out, ret_int HSZ.out.symm⟩

set_option maxHeartbeats 4000000 in
theorem refLen_any (B B2 : Option Addr) (m d m2 d2 : Nat) (lb lo : List Int) (w : World) (hc : CloAt w w.heap.size B m d B2 m2 d2 lb lo) (hsa : Small lb) (hsb : Small lo) (hm : m ≤ 4000) (hm2 : m2 ≤ 4000) :
    Calls Try.prog 18 #[.agg #[.slice B m d, .slice B2 m2 d2]] w fun e w' => Below w.heap.size w w' ∧ e = .returned (.int .i64 (cloLen lb lo)) := by
  have HCL : Hid (∀ w', Below w.heap.size w w' → CloAt w' w.heap.size B m d B2 m2 d2 lb lo) := fun w' hb => hc.below hb (Nat.le_refl _) (Nat.le_refl _)
  have hcapC := hc.a.nums.cap
  have hmaxC := hc.a.nums.max
  have hcapD := hc.b.nums.cap
  have hmaxD := hc.b.nums.max
  have HLC := Lib.hid hc.a.nums.len
  have HLD := Lib.hid hc.b.nums.len
  clear hc
  have hsz := sumTo_bd hsa lb.length (Nat.le_refl _)
  obtain ⟨z1, z2⟩ := hsz
  have HSZ : Hid (cloLen lb lo = sumTo lb lb.length + sumTo lo lo.length) := Lib.hid rfl
  rw [HLC.out] at z1 z2 HSZ
  rw [HLD.out] at HSZ
  go_enter Try.func18, Try.ntmps18
  go_wp2
  go_loopw [3, 4] (fun s i wr => ∃ k : Nat, k ≤ m ∧ i = .int .i64 k ∧ s = .int .i64 (sumTo lb k) ∧ Bk wr w.heap.size 26 #[.slice B m d, .slice B2 m2 d2] ∧ Below w.heap.size w wr) (fun _ i _ => m - (intOf i).toNat)
  case atStart => exact ⟨0, Nat.zero_le _, rfl, rfl, Bk.alloc_ w _ _, Below.alloc2 (Below.refl _ _) _⟩
  case round =>
    obtain ⟨k, hk, rfl, rfl, hbk, hb⟩ := hrel
    have HBK := Lib.hid hbk
    have HB := Lib.hid hb
    obtain ⟨e0, e1⟩ := hbk.pair
    have ow := hb.size
    by_cases hlt : k < m
    · obtain ⟨b, o, x, rfl, hbb, hx, d0⟩ := (HCL.out _ hb).a.nums.at_ hlt
      have hxb := hsa x (List.mem_of_getElem? hx)
      have hsb := sumTo_bd hsa k (by rw [HLC.out]; omega)
      have HST := Lib.hid (sum_take hx)
      obtain ⟨x1, x2⟩ := hxb
      obtain ⟨s1, s2⟩ := hsb
      have ob : b < wr.heap.size := by omega
      have hkz : (k : Int) ≤ 4000 := by omega
      clear hx hb hbk hbb
      generalize sumTo lb k = t at *
      have hw : IntKind.i64.wrap (t + x) = t + x := IntWalk.i64_in _ (by omega)
      go_wp2
      go_roundw
      case rel => exact ⟨k + 1, by omega, by go_num, congrArg (Value.int .i64) (by have := HST.out; omega), HBK.out, HB.out⟩
      case measure => simp [intOf]; omega
    · have e : m = k := by omega
      subst e
      clear hb hbk
      go_wp2
      have HB1 := HB
      have HBK1 := HBK
      clear HB HBK e0 e1 hk
      have z3 : 0 ≤ sumTo lb m := z1
      have z4 : sumTo lb m ≤ 40000000 := by omega
      generalize sumTo lb m = S at *
      go_loopw [3, 5] (fun s i wr => ∃ k : Nat, k ≤ m2 ∧ i = .int .i64 k ∧ s = .int .i64 (S + sumTo lo k) ∧ Bk wr w.heap.size 26 #[.slice B m d, .slice B2 m2 d2] ∧ Below w.heap.size w wr) (fun _ i _ => m2 - (intOf i).toNat)
      case atStart => exact ⟨0, Nat.zero_le _, rfl, by simp [sumTo], HBK1.out, HB1.out⟩
      case round =>
        obtain ⟨k, hk, rfl, rfl, hbk, hb⟩ := hrel
        have HBK := Lib.hid hbk
        have HB := Lib.hid hb
        obtain ⟨e0, e1⟩ := hbk.pair
        have ow := hb.size
        by_cases hlt : k < m2
        · obtain ⟨b, o, x, rfl, hbb, hx, d0⟩ := (HCL.out _ hb).b.nums.at_ hlt
          have hxb := hsb x (List.mem_of_getElem? hx)
          have hsb := sumTo_bd hsb k (by rw [HLD.out]; omega)
          have HST := Lib.hid (sum_take hx)
          obtain ⟨x1, x2⟩ := hxb
          obtain ⟨s1, s2⟩ := hsb
          have ob : b < wr.heap.size := by omega
          have hkz : (k : Int) ≤ 4000 := by omega
          clear hx hb hbk hbb
          generalize sumTo lo k = t at *
          have hw : IntKind.i64.wrap (S + t + x) = S + t + x := IntWalk.i64_in _ (by omega)
          go_wp2
          go_roundw
          case rel => exact ⟨k + 1, by omega, by go_num, congrArg (Value.int .i64) (by have := HST.out; omega), HBK.out, HB.out⟩
          case measure => simp [intOf]; omega
        · have e : m2 = k := by omega
          subst e
          clear hb hbk
          go_wp2
          go_ret
          exact ⟨HB.out, ret_int HSZ.out.symm⟩

end Go.Proofs.Ytkcbfkflkepfeaa
