/- Walks of the reference: Least; code of the statements. -/
import Derived.Test.YtkcbfkflkepfeaaCloseFn
import Derived.Test.YtkcbfkflkepfeaaRefGaps
namespace Go.Proofs.Ytkcbfkflkepfeaa
open Go.RowKit

set_option maxHeartbeats 4000000 in
theorem refLeast_any (A A2 : Option Addr) (n c n2 c2 : Nat) (s : Sys) (w : World) (h : SysAt w w.heap.size A n c A2 n2 c2 s) (hs : s.Ok) (x : Int) (hx0 : 0 ≤ x) (hx1 : x ≤ 4000 * s.unit) :
    Calls Try.prog 25 #[.agg #[.slice A n c, .slice A2 n2 c2, .int .i64 s.width, .int .i64 s.gap, .int .i64 s.lift], .int .i64 x] w fun e w' => Below w.heap.size w w' ∧ e = .returned (.int .i64 (s.leastOf x)) := by
  have hcapA := h.a.nums.cap; have hmaxA := h.a.nums.max; have hcapB := h.b.nums.cap; have hmaxB := h.b.nums.max; have HLA := Lib.hid h.a.nums.len; have HLB := Lib.hid h.b.nums.len; have H : Hid (∀ w', Below w.heap.size w w' → SysAt w' w.heap.size A n c A2 n2 c2 s) := fun w' hb => h.below hb (Nat.le_refl _) (Nat.le_refl _); have HS : Hid (∀ w', Below w.heap.size w w' → SysAt w' w'.heap.size A n c A2 n2 c2 s) := fun w' hb => h.below hb (Nat.le_refl _) hb.size; clear h
  have HOK := Lib.hid hs
  have hu := hs.unit_bd
  obtain ⟨hu1, hu2⟩ := hu
  have hu0 : ¬ s.unit = 0 := by omega
  have HT := Lib.hid (fun (W : World) (hW : Below w.heap.size w W) => refTable_any A A2 n c n2 c2 s W (HS.out W hW) hs x hx0 hx1)
  have hrw : IntKind.i64.wrap (x.tmod s.unit) = x.tmod s.unit := IntWalk.i64_in _ (by have := Int.tmod_lt_of_pos x (show 0 < s.unit by omega); have := Int.tmod_nonneg s.unit hx0; omega)
  have hxd : decide (x < 0) = false := by simp; omega
  have hN1 : x.tdiv s.unit ≤ 4000 := by
    rw [Int.tdiv_eq_ediv_of_nonneg hx0]
    exact Int.ediv_le_of_le_mul (by omega) (by omega)
  obtain ⟨N, hN⟩ : ∃ N : Nat, N = (x.tdiv s.unit).toNat := ⟨_, rfl⟩
  have hN4 : N ≤ 4000 := by omega
  have HLE : Hid (s.leastOf x = if x.tmod s.unit = 0 then (tab s.parts N).getD N 0 else -1) := Lib.hid (by unfold Sys.leastOf tabK; rw [hN])
  rw [← hN] at HT
  clear hs hN hN1 hx0 hx1
  by_cases hr : x.tmod s.unit = 0
  · have hrb : (x.tmod s.unit == 0) = true := by simpa using hr
    have hrn : (x.tmod s.unit != 0) = false := by simpa using hr
    rw [if_pos hr] at HLE
    have hsub : IntKind.i64.wrap (((N + 1 : Nat) : Int) - 1) = (N : Int) := by rw [IntWalk.i64_in _ (by omega)]; omega
    have hsub2 : IntKind.i64.wrap ((N : Int) + 1 - 1) = (N : Int) := by rw [IntWalk.i64_in _ (by omega)]; omega
    clear hr
    go_enter Try.func25, Try.ntmps25
    go_wp2_with (first
      | (go_at_call 46; refine (refUnit_any _ _ _ _ _ _ _ _ (HS.out _ (by exact (by repeat (first | with_reducible exact Below.refl _ _ | with_reducible assumption | with_reducible refine Below.drew ?_ | with_reducible refine Below.drewN ?_ _ | with_reducible refine Below.alloc2 ?_ _ | with_reducible refine Below.alloc ?_ (by first | omega | (simp <;> omega)) _ | with_reducible refine Below.setCell ?_ (by first | omega | (simp <;> omega)) _ | with_reducible refine Below.step2 (by with_reducible assumption) ?_ | with_reducible refine Below.step (by with_reducible assumption) ?_ (by first | omega | (simp <;> omega)))))) HOK.out).mono ?_; rintro e w1 ⟨hb, rfl⟩; have HB1 : Hid (Below w.heap.size w w1) := Lib.hid (by exact (by repeat (first | with_reducible exact Below.refl _ _ | with_reducible assumption | with_reducible refine Below.drew ?_ | with_reducible refine Below.drewN ?_ _ | with_reducible refine Below.alloc2 ?_ _ | with_reducible refine Below.alloc ?_ (by first | omega | (simp <;> omega)) _ | with_reducible refine Below.setCell ?_ (by first | omega | (simp <;> omega)) _ | with_reducible refine Below.step2 (by with_reducible assumption) ?_ | with_reducible refine Below.step (by with_reducible assumption) ?_ (by first | omega | (simp <;> omega))))); have HK1 : Hid (Bk w1 w.heap.size 24 #[.slice A n c, .slice A2 n2 c2, .int .i64 s.width, .int .i64 s.gap, .int .i64 s.lift]) := Lib.hid (by exact (by repeat (first | with_reducible assumption | with_reducible exact Bk.at_ (by first | (simp; done) | omega) | with_reducible refine Bk.alloc ?_ _ | with_reducible refine Bk.drew ?_ | with_reducible refine Bk.drewN ?_ _ | with_reducible refine Bk.step (by with_reducible assumption) ?_ (by first | omega | (simp <;> omega))))); obtain ⟨⟨a10, a11, a12, a13, a14⟩, -⟩ := HK1.out.five; clear hb)
      | (go_at_call 30; refine (HT.out _ HB1.out).mono ?_; rintro e w2 ⟨hb, TA, tc, rfl, ht⟩; have HB2 : Hid (Below w.heap.size w w2) := Lib.hid (by have hb0 := HB1.out; exact (by repeat (first | with_reducible exact Below.refl _ _ | with_reducible assumption | with_reducible refine Below.drew ?_ | with_reducible refine Below.drewN ?_ _ | with_reducible refine Below.alloc2 ?_ _ | with_reducible refine Below.alloc ?_ (by first | omega | (simp <;> omega)) _ | with_reducible refine Below.setCell ?_ (by first | omega | (simp <;> omega)) _ | with_reducible refine Below.step2 (by with_reducible assumption) ?_ | with_reducible refine Below.step (by with_reducible assumption) ?_ (by first | omega | (simp <;> omega))))); obtain ⟨b, o, y, rfl, hbb, hy, d0⟩ := ht.nums.at_ (show N < N + 1 by omega); have HY := Lib.hid (getD_of hy); have hcT := ht.nums.cap; have hmT := ht.nums.max; clear hb ht hbb hy))
    go_ret
    exact ⟨HB2.out, ret_int (by rw [HLE.out, HY.out])⟩
  · have hrb : (x.tmod s.unit == 0) = false := by simpa using hr
    have hrn : (x.tmod s.unit != 0) = true := by simpa using hr
    rw [if_neg hr] at HLE
    clear hr
    go_enter Try.func25, Try.ntmps25
    go_wp2_with (go_at_call 46; refine (refUnit_any _ _ _ _ _ _ _ _ (HS.out _ (by exact (by repeat (first | with_reducible exact Below.refl _ _ | with_reducible assumption | with_reducible refine Below.drew ?_ | with_reducible refine Below.drewN ?_ _ | with_reducible refine Below.alloc2 ?_ _ | with_reducible refine Below.alloc ?_ (by first | omega | (simp <;> omega)) _ | with_reducible refine Below.setCell ?_ (by first | omega | (simp <;> omega)) _ | with_reducible refine Below.step2 (by with_reducible assumption) ?_ | with_reducible refine Below.step (by with_reducible assumption) ?_ (by first | omega | (simp <;> omega)))))) HOK.out).mono ?_; rintro e w1 ⟨hb, rfl⟩; have HB1 : Hid (Below w.heap.size w w1) := Lib.hid (by exact (by repeat (first | with_reducible exact Below.refl _ _ | with_reducible assumption | with_reducible refine Below.drew ?_ | with_reducible refine Below.drewN ?_ _ | with_reducible refine Below.alloc2 ?_ _ | with_reducible refine Below.alloc ?_ (by first | omega | (simp <;> omega)) _ | with_reducible refine Below.setCell ?_ (by first | omega | (simp <;> omega)) _ | with_reducible refine Below.step2 (by with_reducible assumption) ?_ | with_reducible refine Below.step (by with_reducible assumption) ?_ (by first | omega | (simp <;> omega))))); have HK1 : Hid (Bk w1 w.heap.size 24 #[.slice A n c, .slice A2 n2 c2, .int .i64 s.width, .int .i64 s.gap, .int .i64 s.lift]) := Lib.hid (by exact (by repeat (first | with_reducible assumption | with_reducible exact Bk.at_ (by first | (simp; done) | omega) | with_reducible refine Bk.alloc ?_ _ | with_reducible refine Bk.drew ?_ | with_reducible refine Bk.drewN ?_ _ | with_reducible refine Bk.step (by with_reducible assumption) ?_ (by first | omega | (simp <;> omega))))); obtain ⟨⟨a10, a11, a12, a13, a14⟩, -⟩ := HK1.out.five; clear hb)
    go_ret
    exact ⟨HB1.out, ret_int HLE.out.symm⟩

set_option maxHeartbeats 1000000 in
theorem lawCode_any (a b : Int) (w : World) (h1 : 0 ≤ a ∧ a ≤ 1000000) (h2 : 0 ≤ b ∧ b ≤ 1000000) :
    Calls Try.prog 26 #[.agg #[.int .i64 a, .int .i64 b]] w fun e w' => Below w.heap.size w w' ∧ e = .returned (.int .i64 (10000 * a + b)) := by
  have hw1 : IntKind.i64.wrap (10000 * a) = 10000 * a := IntWalk.i64_in _ (by omega)
  have hw2 : IntKind.i64.wrap (10000 * a + b) = 10000 * a + b := IntWalk.i64_in _ (by omega)
  go_enter Try.func26, Try.ntmps26
  go_wp2
  go_ret
  exact ⟨(by repeat (first | with_reducible exact Below.refl _ _ | with_reducible assumption | with_reducible refine Below.drew ?_ | with_reducible refine Below.drewN ?_ _ | with_reducible refine Below.alloc2 ?_ _ | with_reducible refine Below.alloc ?_ (by first | omega | (simp <;> omega)) _ | with_reducible refine Below.setCell ?_ (by first | omega | (simp <;> omega)) _ | with_reducible refine Below.step2 (by with_reducible assumption) ?_ | with_reducible refine Below.step (by with_reducible assumption) ?_ (by first | omega | (simp <;> omega)))), rfl⟩

end Go.Proofs.Ytkcbfkflkepfeaa
