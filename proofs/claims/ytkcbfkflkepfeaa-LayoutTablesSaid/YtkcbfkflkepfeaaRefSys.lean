/- Walks of the reference: Unit, LengthErr. -/
import Derived.Test.YtkcbfkflkepfeaaOwnB
namespace Go.Proofs.Ytkcbfkflkepfeaa
open Go.RowKit

theorem nums_pos {s : Sys} (h : s.Ok) {l : List Int} (hl : ∀ x ∈ l, x ∈ s.all) {k : Nat} {x : Int} (hx : l[k]? = some x) : 1 ≤ x ∧ x ≤ 10000 := ok1_iff.1 (List.all_eq_true.1 h.ok x (hl x (List.mem_of_getElem? hx)))

theorem all_getA {s : Sys} {k : Nat} {x : Int} (h : s.bays[k]? = some x) : s.all[k]? = some x := by
  unfold Sys.all
  rw [List.getElem?_append_left (List.getElem?_eq_some_iff.1 h).1, h]
theorem all_getB {s : Sys} {n k : Nat} {x : Int} (hn : s.bays.length = n) (h : s.boards[k]? = some x) : s.all[n + k]? = some x := by
  unfold Sys.all
  rw [List.getElem?_append_right (by omega), hn, Nat.add_sub_cancel_left, h]

set_option maxHeartbeats 2000000 in
theorem refUnit_any (A A2 : Option Addr) (n c n2 c2 : Nat) (s : Sys) (w : World) (h : SysAt w w.heap.size A n c A2 n2 c2 s) (hs : s.Ok) :
    Calls Try.prog 46 #[.agg #[.slice A n c, .slice A2 n2 c2, .int .i64 s.width, .int .i64 s.gap, .int .i64 s.lift]] w fun e w' => Below w.heap.size w w' ∧ e = .returned (.int .i64 s.unit) := by
  have hcapA := h.a.nums.cap; have hmaxA := h.a.nums.max; have hcapB := h.b.nums.cap; have hmaxB := h.b.nums.max; have HLA := Lib.hid h.a.nums.len; have HLB := Lib.hid h.b.nums.len; have H : Hid (∀ w', Below w.heap.size w w' → SysAt w' w.heap.size A n c A2 n2 c2 s) := fun w' hb => h.below hb (Nat.le_refl _) (Nat.le_refl _); have HS : Hid (∀ w', Below w.heap.size w w' → SysAt w' w'.heap.size A n c A2 n2 c2 s) := fun w' hb => h.below hb (Nat.le_refl _) hb.size; clear h
  have HOK := Lib.hid hs
  have hnA : n ≤ 8 := by have := hs.bays; rw [HLA.out] at this; exact this
  have hnB : n2 ≤ 8 := by have := hs.boards; rw [HLB.out] at this; exact this
  clear hs
  go_enter Try.func46, Try.ntmps46
  go_wp2
  go_loopw [3, 4] (fun d i wr => ∃ k : Nat, k ≤ n ∧ i = .int .i64 k ∧ d = .int .i64 (gcdTo (s.all.take (k))) ∧ Bk wr w.heap.size 24 #[.slice A n c, .slice A2 n2 c2, .int .i64 s.width, .int .i64 s.gap, .int .i64 s.lift] ∧ Below w.heap.size w wr) (fun _ i _ => n - (intOf i).toNat)
  case atStart => exact ⟨0, Nat.zero_le _, rfl, rfl, Bk.alloc_ w _ _, Below.alloc2 (Below.refl _ _) _⟩
  case round =>
    obtain ⟨k, hk, rfl, rfl, hbk, hb⟩ := hrel
    have HBK := Lib.hid hbk
    have HB := Lib.hid hb
    obtain ⟨⟨c0, c1, c2', c3, c4⟩, f0, f1, f2, f3, f4⟩ := hbk.five
    have og := hbk.lt
    have ow := hb.size
    by_cases hlt : k < n
    · obtain ⟨b, o, x, rfl, hbb, hx, d0⟩ := (H.out _ hb).a.nums.at_ hlt
      have hxb := nums_pos HOK.out (fun y hy => List.mem_append_left _ hy) hx
      have hgb := take_gcd_bd HOK.out.ok (k)
      have HG := Lib.hid (gcdTo_take (l := s.all) (k := k) (x := x) (all_getA hx))
      have ob : b < wr.heap.size := by omega
      obtain ⟨hx1, hx2⟩ := hxb
      obtain ⟨hg1, hg2⟩ := hgb
      clear hx hb hbk hbb
      generalize gcdTo (s.all.take (k)) = d at *
      go_wp2_with (go_at_call 60; refine (refGcd_int _ _ _ (by omega) (by omega)).mono ?_; rintro e wd ⟨hbd, rfl⟩; have HBD := Lib.hid hbd; have HKD := Lib.hid (HBK.out.below hbd (by omega)); clear hbd)
      go_roundw
      case rel =>
        have hb := HB.out
        have hbd := HBD.out
        have hz := hbd.size
        exact ⟨k + 1, by omega, by go_num, congrArg (Value.int .i64) HG.out.symm, HKD.out, (by repeat (first | with_reducible exact Below.refl _ _ | with_reducible assumption | with_reducible refine Below.drew ?_ | with_reducible refine Below.drewN ?_ _ | with_reducible refine Below.alloc2 ?_ _ | with_reducible refine Below.alloc ?_ (by first | omega | (simp <;> omega)) _ | with_reducible refine Below.setCell ?_ (by first | omega | (simp <;> omega)) _ | with_reducible refine Below.step2 (by with_reducible assumption) ?_ | with_reducible refine Below.step (by with_reducible assumption) ?_ (by first | omega | (simp <;> omega))))⟩
      case measure => simp [intOf]; omega
    · have e : n = k := by omega
      subst e
      clear hb hbk
      go_wp2
      have HBK1 := HBK
      have HB1 := HB
      clear HBK HB c0 c1 c2' c3 c4 f0 f1 f2 f3 f4
      go_loopw [3, 5] (fun d i wr => ∃ k : Nat, k ≤ n2 ∧ i = .int .i64 k ∧ d = .int .i64 (gcdTo (s.all.take (n + k))) ∧ Bk wr w.heap.size 24 #[.slice A n c, .slice A2 n2 c2, .int .i64 s.width, .int .i64 s.gap, .int .i64 s.lift] ∧ Below w.heap.size w wr) (fun _ i _ => n2 - (intOf i).toNat)
      case atStart => exact ⟨0, Nat.zero_le _, rfl, by simp, HBK1.out, HB1.out⟩
      case round =>
        obtain ⟨k, hk, rfl, rfl, hbk, hb⟩ := hrel
        have HBK := Lib.hid hbk
        have HB := Lib.hid hb
        obtain ⟨⟨c0, c1, c2', c3, c4⟩, f0, f1, f2, f3, f4⟩ := hbk.five
        have og := hbk.lt
        have ow := hb.size
        by_cases hlt : k < n2
        · obtain ⟨b, o, x, rfl, hbb, hx, d0⟩ := (H.out _ hb).b.nums.at_ hlt
          have hxb := nums_pos HOK.out (fun y hy => List.mem_append_right _ hy) hx
          have hgb := take_gcd_bd HOK.out.ok (n + k)
          have HG := Lib.hid (gcdTo_take (l := s.all) (k := n + k) (x := x) (all_getB HLA.out hx))
          have ob : b < wr.heap.size := by omega
          obtain ⟨hx1, hx2⟩ := hxb
          obtain ⟨hg1, hg2⟩ := hgb
          clear hx hb hbk hbb
          generalize gcdTo (s.all.take (n + k)) = d at *
          go_wp2_with (go_at_call 60; refine (refGcd_int _ _ _ (by omega) (by omega)).mono ?_; rintro e wd ⟨hbd, rfl⟩; have HBD := Lib.hid hbd; have HKD := Lib.hid (HBK.out.below hbd (by omega)); clear hbd)
          go_roundw
          case rel =>
            have hb := HB.out
            have hbd := HBD.out
            have hz := hbd.size
            exact ⟨k + 1, by omega, by go_num, congrArg (Value.int .i64) HG.out.symm, HKD.out, (by repeat (first | with_reducible exact Below.refl _ _ | with_reducible assumption | with_reducible refine Below.drew ?_ | with_reducible refine Below.drewN ?_ _ | with_reducible refine Below.alloc2 ?_ _ | with_reducible refine Below.alloc ?_ (by first | omega | (simp <;> omega)) _ | with_reducible refine Below.setCell ?_ (by first | omega | (simp <;> omega)) _ | with_reducible refine Below.step2 (by with_reducible assumption) ?_ | with_reducible refine Below.step (by with_reducible assumption) ?_ (by first | omega | (simp <;> omega))))⟩
          case measure => simp [intOf]; omega
        · have e : n2 = k := by omega
          subst e
          clear hb hbk
          go_wp2
          go_ret
          exact ⟨HB.out, ret_int (by unfold Sys.unit; rw [List.take_of_length_le (by unfold Sys.all; rw [List.length_append, HLA.out, HLB.out]; exact Nat.le_refl _)])⟩

end Go.Proofs.Ytkcbfkflkepfeaa
