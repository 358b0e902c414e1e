/- Walks: unit, regular, code, costOf of the program. -/
import Derived.Test.YtkcbfkflkepfeaaConcat
namespace Go.Proofs.Ytkcbfkflkepfeaa
open Go.RowKit

set_option maxHeartbeats 4000000 in
theorem unit_any (A A2 : Option Addr) (n c n2 c2 : Nat) (s : Sys) (w : World) (h : SysAt w w.heap.size A n c A2 n2 c2 s) (hs : s.Ok) :
    Calls Try.prog 49 #[.agg #[.slice A n c, .slice A2 n2 c2, .int .i64 s.width, .int .i64 s.gap, .int .i64 s.lift]] w fun e w' => Below w.heap.size w w' ∧ e = .returned (.int .i64 s.unit) := by
  have hcapA := h.a.nums.cap; have hmaxA := h.a.nums.max; have hcapB := h.b.nums.cap; have hmaxB := h.b.nums.max; have HLA := Lib.hid h.a.nums.len; have HLB := Lib.hid h.b.nums.len; have H : Hid (∀ w', Below w.heap.size w w' → SysAt w' w.heap.size A n c A2 n2 c2 s) := fun w' hb => h.below hb (Nat.le_refl _) (Nat.le_refl _); have HS : Hid (∀ w', Below w.heap.size w w' → SysAt w' w'.heap.size A n c A2 n2 c2 s) := fun w' hb => h.below hb (Nat.le_refl _) hb.size; clear h
  have HOK := Lib.hid hs
  have hnA : n ≤ 8 := by have := hs.bays; rw [HLA.out] at this; exact this
  have hnB : n2 ≤ 8 := by have := hs.boards; rw [HLB.out] at this; exact this
  have hn1 : 1 ≤ n := by have := hs.some_; rw [HLA.out] at this; exact this
  obtain ⟨N, hN⟩ : ∃ N : Nat, n + n2 = N := ⟨_, rfl⟩
  have HNN := Lib.hid hN
  have HN : Hid (s.all.length = N) := Lib.hid (by unfold Sys.all; rw [List.length_append, HLA.out, HLB.out, hN])
  have hN2 : N ≤ 16 := by omega
  clear hs hN
  go_enter Try.func49, Try.ntmps49
  go_wp2_with (go_at_call 61; refine (concat_any _ _ _ _ _ _ _ _ (HS.out _ (by exact (by repeat (first | with_reducible exact Below.refl _ _ | with_reducible assumption | with_reducible refine Below.drew ?_ | with_reducible refine Below.drewN ?_ _ | with_reducible refine Below.alloc2 ?_ _ | with_reducible refine Below.alloc ?_ (by first | omega | (simp <;> omega)) _ | with_reducible refine Below.setCell ?_ (by first | omega | (simp <;> omega)) _ | with_reducible refine Below.step2 (by with_reducible assumption) ?_ | with_reducible refine Below.step (by with_reducible assumption) ?_ (by first | omega | (simp <;> omega)))))) _ _ 22 (by exact (by repeat (first | with_reducible assumption | with_reducible exact Bk.at_ (by first | (simp; done) | omega) | with_reducible refine Bk.alloc ?_ _ | with_reducible refine Bk.drew ?_ | with_reducible refine Bk.drewN ?_ _ | with_reducible refine Bk.step (by with_reducible assumption) ?_ (by first | omega | (simp <;> omega))))) hn1 (by omega) (by omega)).mono ?_; rintro e wd ⟨hbd, v0, rfl, hown0⟩; rw [HNN.out] at hown0; obtain ⟨A', c', rfl, hi0⟩ := Ints.of_own hown0; have HB1 : Hid (Below w.heap.size w wd) := Lib.hid (by exact (by repeat (first | with_reducible exact Below.refl _ _ | with_reducible assumption | with_reducible refine Below.drew ?_ | with_reducible refine Below.drewN ?_ _ | with_reducible refine Below.alloc2 ?_ _ | with_reducible refine Below.alloc ?_ (by first | omega | (simp <;> omega)) _ | with_reducible refine Below.setCell ?_ (by first | omega | (simp <;> omega)) _ | with_reducible refine Below.step2 (by with_reducible assumption) ?_ | with_reducible refine Below.step (by with_reducible assumption) ?_ (by first | omega | (simp <;> omega))))); clear hbd hown0)
  have hcap := hi0.nums.cap
  have hmax := hi0.nums.max
  have HI : Hid (∀ w', Below wd.heap.size wd w' → Ints w' wd.heap.size A' N c' s.all) := fun w' hb => hi0.below hb (Nat.le_refl _) (Nat.le_refl _)
  clear hi0
  go_wp2
  go_loopw [3, 13] (fun g i wr => ∃ k : Nat, k ≤ N ∧ i = .int .i64 k ∧ g = .int .i64 (gcdTo (s.all.take k)) ∧ Below wd.heap.size wd wr) (fun _ i _ => N - (intOf i).toNat)
  case atStart => exact ⟨0, Nat.zero_le _, rfl, rfl, Below.refl _ _⟩
  case round =>
    obtain ⟨k, hk, rfl, rfl, hb⟩ := hrel
    have HB := Lib.hid hb
    have ow := hb.size
    by_cases hlt : k < N
    · obtain ⟨b, o, x, rfl, hbb, hx, d0⟩ := (HI.out _ hb).nums.at_ hlt
      have hxb := ok1_iff.1 (List.all_eq_true.1 HOK.out.ok x (List.mem_of_getElem? hx))
      have hgb := take_gcd_bd HOK.out.ok k
      have HG := Lib.hid (gcdTo_take (l := s.all) (k := k) (x := x) hx)
      have ob : b < wr.heap.size := by omega
      obtain ⟨hx1, hx2⟩ := hxb
      obtain ⟨hg1, hg2⟩ := hgb
      clear hx hb hbb
      generalize gcdTo (s.all.take k) = g at *
      go_wp2_with (go_at_call 62; refine (commonDivisor_int _ _ _ (by omega) (by omega)).mono ?_; rintro e we ⟨hbe, rfl⟩; have HBE := Lib.hid hbe; clear hbe)
      go_roundw
      case rel =>
        have hb := HB.out
        have hbe := HBE.out
        exact ⟨k + 1, by omega, by go_num, congrArg (Value.int .i64) HG.out.symm, (by repeat (first | with_reducible exact Below.refl _ _ | with_reducible assumption | with_reducible refine Below.drew ?_ | with_reducible refine Below.drewN ?_ _ | with_reducible refine Below.alloc2 ?_ _ | with_reducible refine Below.alloc ?_ (by first | omega | (simp <;> omega)) _ | with_reducible refine Below.setCell ?_ (by first | omega | (simp <;> omega)) _ | with_reducible refine Below.step2 (by with_reducible assumption) ?_ | with_reducible refine Below.step (by with_reducible assumption) ?_ (by first | omega | (simp <;> omega))))⟩
      case measure => simp [intOf]; omega
    · have e : N = k := by omega
      subst e
      clear hb
      go_wp2
      go_ret
      have hb1 := HB1.out
      have hb := HB.out
      exact ⟨(by repeat (first | with_reducible exact Below.refl _ _ | with_reducible assumption | with_reducible refine Below.drew ?_ | with_reducible refine Below.drewN ?_ _ | with_reducible refine Below.alloc2 ?_ _ | with_reducible refine Below.alloc ?_ (by first | omega | (simp <;> omega)) _ | with_reducible refine Below.setCell ?_ (by first | omega | (simp <;> omega)) _ | with_reducible refine Below.step2 (by with_reducible assumption) ?_ | with_reducible refine Below.step (by with_reducible assumption) ?_ (by first | omega | (simp <;> omega)))), ret_int (by unfold Sys.unit; rw [List.take_of_length_le (by rw [HN.out]; exact Nat.le_refl _)])⟩

set_option maxHeartbeats 1000000 in
theorem regular_any (A A2 : Option Addr) (n c n2 c2 : Nat) (s : Sys) (w : World) (h : SysAt w w.heap.size A n c A2 n2 c2 s) (hn : 1 ≤ n) :
    Calls Try.prog 53 #[.agg #[.slice A n c, .slice A2 n2 c2, .int .i64 s.width, .int .i64 s.gap, .int .i64 s.lift]] w fun e w' => Below w.heap.size w w' ∧ e = .returned (.int .i64 s.reg) := by
  have hcapA := h.a.nums.cap; have hmaxA := h.a.nums.max; have hcapB := h.b.nums.cap; have hmaxB := h.b.nums.max; have HLA := Lib.hid h.a.nums.len; have HLB := Lib.hid h.b.nums.len; have H : Hid (∀ w', Below w.heap.size w w' → SysAt w' w.heap.size A n c A2 n2 c2 s) := fun w' hb => h.below hb (Nat.le_refl _) (Nat.le_refl _); have HS : Hid (∀ w', Below w.heap.size w w' → SysAt w' w'.heap.size A n c A2 n2 c2 s) := fun w' hb => h.below hb (Nat.le_refl _) hb.size; clear h
  obtain ⟨b, o, x, rfl, hbb, hx, c0⟩ := (H.out _ (Below.refl _ _)).a.nums.at_ (show n - 1 < n by omega)
  have HX : Hid (s.reg = x) := Lib.hid (by unfold Sys.reg; rw [HLA.out]; exact getD_of hx)
  have hw1 : IntKind.i64.wrap ((n : Int) - 1) = ((n - 1 : Nat) : Int) := by rw [IntWalk.i64_in _ (by omega)]; omega
  have ob : b < w.heap.size + 1 := by omega
  clear hx
  obtain ⟨k, hk⟩ : ∃ k : Nat, k = n - 1 := ⟨_, rfl⟩
  rw [← hk] at hw1 c0
  have hk1 : k < n := by omega
  clear hk
  go_enter Try.func53, Try.ntmps53
  go_wp2
  go_ret
  exact ⟨(by repeat (first | with_reducible exact Below.refl _ _ | with_reducible assumption | with_reducible refine Below.drew ?_ | with_reducible refine Below.drewN ?_ _ | with_reducible refine Below.alloc2 ?_ _ | with_reducible refine Below.alloc ?_ (by first | omega | (simp <;> omega)) _ | with_reducible refine Below.setCell ?_ (by first | omega | (simp <;> omega)) _ | with_reducible refine Below.step2 (by with_reducible assumption) ?_ | with_reducible refine Below.step (by with_reducible assumption) ?_ (by first | omega | (simp <;> omega)))), ret_int HX.out.symm⟩

set_option maxHeartbeats 1000000 in
theorem code_any (x y : Int) (w : World) (hx : 0 ≤ x ∧ x ≤ 100000) (hy : 0 ≤ y ∧ y ≤ 100000) :
    Calls Try.prog 63 #[.agg #[.int .i64 x, .int .i64 y]] w fun e w' => Below w.heap.size w w' ∧ e = .returned (.int .i64 (10000 * x + y)) := by
  obtain ⟨x1, x2⟩ := hx
  obtain ⟨y1, y2⟩ := hy
  have hw1 : IntKind.i64.wrap (10000 * x) = 10000 * x := IntWalk.i64_in _ (by omega)
  have hw2 : IntKind.i64.wrap (10000 * x + y) = 10000 * x + y := IntWalk.i64_in _ (by omega)
  go_enter Try.func63, Try.ntmps63
  go_wp2
  go_ret
  exact ⟨(by repeat (first | with_reducible exact Below.refl _ _ | with_reducible assumption | with_reducible refine Below.drew ?_ | with_reducible refine Below.drewN ?_ _ | with_reducible refine Below.alloc2 ?_ _ | with_reducible refine Below.alloc ?_ (by first | omega | (simp <;> omega)) _ | with_reducible refine Below.setCell ?_ (by first | omega | (simp <;> omega)) _ | with_reducible refine Below.step2 (by with_reducible assumption) ?_ | with_reducible refine Below.step (by with_reducible assumption) ?_ (by first | omega | (simp <;> omega)))), rfl⟩

end Go.Proofs.Ytkcbfkflkepfeaa
