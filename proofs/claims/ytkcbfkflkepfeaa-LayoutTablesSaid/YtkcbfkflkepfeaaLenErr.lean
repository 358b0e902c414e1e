/- Walks: systemAndLengthError, tableUpTo, Table; LengthErr of the reference. -/
import Derived.Test.YtkcbfkflkepfeaaTableOf
import Derived.Test.YtkcbfkflkepfeaaCheckSys
import Derived.Test.YtkcbfkflkepfeaaRefSys
namespace Go.Proofs.Ytkcbfkflkepfeaa
open Go.RowKit

theorem Sys.bothErr_bad {s : Sys} {n z : Int} (h : s.err = z) (hz : z ≠ 0) : s.bothErr n = z := by unfold Sys.bothErr; rw [if_pos (by rw [h]; exact hz), h]
theorem Sys.bothErr_ok {s : Sys} {n : Int} (h : s.err = 0) : s.bothErr n = s.lenErr n := by unfold Sys.bothErr; rw [if_neg (by simp [h])]

set_option maxHeartbeats 4000000 in
theorem sysLen_any (A A2 : Option Addr) (n c n2 c2 : Nat) (s : Sys) (w : World) (h : SysAt w w.heap.size A n c A2 n2 c2 s) (x : Int) :
    Calls Try.prog 48 #[.agg #[.slice A n c, .slice A2 n2 c2, .int .i64 s.width, .int .i64 s.gap, .int .i64 s.lift], .int .i64 x] w fun e w' => Below w.heap.size w w' ∧ e = .returned (.int .i64 (s.bothErr x)) := by
  have hcapA := h.a.nums.cap; have hmaxA := h.a.nums.max; have hcapB := h.b.nums.cap; have hmaxB := h.b.nums.max; have HLA := Lib.hid h.a.nums.len; have HLB := Lib.hid h.b.nums.len; have H : Hid (∀ w', Below w.heap.size w w' → SysAt w' w.heap.size A n c A2 n2 c2 s) := fun w' hb => h.below hb (Nat.le_refl _) (Nat.le_refl _); have HS : Hid (∀ w', Below w.heap.size w w' → SysAt w' w'.heap.size A n c A2 n2 c2 s) := fun w' hb => h.below hb (Nat.le_refl _) hb.size; clear h
  by_cases he : s.err = 0
  · have HE := Lib.hid he
    have HOK := Lib.hid (Sys.ok_of he)
    rw [Sys.bothErr_ok he]
    have hu := HOK.out.unit_bd
    obtain ⟨hu1, hu2⟩ := hu
    have hw : IntKind.i64.wrap (4000 * s.unit) = 4000 * s.unit := IntWalk.i64_in _ (by omega)
    clear he
    by_cases h1 : x < 0
    · have hz : s.lenErr x = 2 := by unfold Sys.lenErr; rw [if_pos h1]
      rw [hz]
      clear hz
      go_enter Try.func48, Try.ntmps48
      go_wp2_with (go_at_call 51; refine (checkSystem_any _ _ _ _ _ _ _ _ (HS.out _ (by exact (by repeat (first | with_reducible exact Below.refl _ _ | with_reducible assumption | with_reducible refine Below.drew ?_ | with_reducible refine Below.drewN ?_ _ | with_reducible refine Below.alloc2 ?_ _ | with_reducible refine Below.alloc ?_ (by first | omega | (simp <;> omega)) _ | with_reducible refine Below.setCell ?_ (by first | omega | (simp <;> omega)) _ | with_reducible refine Below.step2 (by with_reducible assumption) ?_ | with_reducible refine Below.step (by with_reducible assumption) ?_ (by first | omega | (simp <;> omega))))))).mono ?_; rintro e w1 ⟨hb1, rfl⟩; rw [HE.out]; have HB1 : Hid (Below w.heap.size w w1) := Lib.hid (by exact (by repeat (first | with_reducible exact Below.refl _ _ | with_reducible assumption | with_reducible refine Below.drew ?_ | with_reducible refine Below.drewN ?_ _ | with_reducible refine Below.alloc2 ?_ _ | with_reducible refine Below.alloc ?_ (by first | omega | (simp <;> omega)) _ | with_reducible refine Below.setCell ?_ (by first | omega | (simp <;> omega)) _ | with_reducible refine Below.step2 (by with_reducible assumption) ?_ | with_reducible refine Below.step (by with_reducible assumption) ?_ (by first | omega | (simp <;> omega))))); have HK1 : Hid (Bk w1 w.heap.size 24 #[.slice A n c, .slice A2 n2 c2, .int .i64 s.width, .int .i64 s.gap, .int .i64 s.lift]) := Lib.hid (by exact (by repeat (first | with_reducible assumption | with_reducible exact Bk.at_ (by first | (simp; done) | omega) | with_reducible refine Bk.alloc ?_ _ | with_reducible refine Bk.drew ?_ | with_reducible refine Bk.drewN ?_ _ | with_reducible refine Bk.step (by with_reducible assumption) ?_ (by first | omega | (simp <;> omega))))); obtain ⟨⟨a0, a1, a2, a3, a4⟩, -⟩ := HK1.out.five; have oz1 := HB1.out.size; clear hb1)
      go_ret
      exact ⟨HB1.out, rfl⟩
    · by_cases h2 : 4000 * s.unit < x
      · have hz : s.lenErr x = 8 := by unfold Sys.lenErr; rw [if_neg h1, if_pos h2]
        rw [hz]
        clear hz
        go_enter Try.func48, Try.ntmps48
        go_wp2_with (first | (go_at_call 51; refine (checkSystem_any _ _ _ _ _ _ _ _ (HS.out _ (by exact (by repeat (first | with_reducible exact Below.refl _ _ | with_reducible assumption | with_reducible refine Below.drew ?_ | with_reducible refine Below.drewN ?_ _ | with_reducible refine Below.alloc2 ?_ _ | with_reducible refine Below.alloc ?_ (by first | omega | (simp <;> omega)) _ | with_reducible refine Below.setCell ?_ (by first | omega | (simp <;> omega)) _ | with_reducible refine Below.step2 (by with_reducible assumption) ?_ | with_reducible refine Below.step (by with_reducible assumption) ?_ (by first | omega | (simp <;> omega))))))).mono ?_; rintro e w1 ⟨hb1, rfl⟩; rw [HE.out]; have HB1 : Hid (Below w.heap.size w w1) := Lib.hid (by exact (by repeat (first | with_reducible exact Below.refl _ _ | with_reducible assumption | with_reducible refine Below.drew ?_ | with_reducible refine Below.drewN ?_ _ | with_reducible refine Below.alloc2 ?_ _ | with_reducible refine Below.alloc ?_ (by first | omega | (simp <;> omega)) _ | with_reducible refine Below.setCell ?_ (by first | omega | (simp <;> omega)) _ | with_reducible refine Below.step2 (by with_reducible assumption) ?_ | with_reducible refine Below.step (by with_reducible assumption) ?_ (by first | omega | (simp <;> omega))))); have HK1 : Hid (Bk w1 w.heap.size 24 #[.slice A n c, .slice A2 n2 c2, .int .i64 s.width, .int .i64 s.gap, .int .i64 s.lift]) := Lib.hid (by exact (by repeat (first | with_reducible assumption | with_reducible exact Bk.at_ (by first | (simp; done) | omega) | with_reducible refine Bk.alloc ?_ _ | with_reducible refine Bk.drew ?_ | with_reducible refine Bk.drewN ?_ _ | with_reducible refine Bk.step (by with_reducible assumption) ?_ (by first | omega | (simp <;> omega))))); obtain ⟨⟨a0, a1, a2, a3, a4⟩, -⟩ := HK1.out.five; have oz1 := HB1.out.size; clear hb1) | (go_at_call 49; refine (unit_any _ _ _ _ _ _ _ _ (HS.out _ HB1.out) HOK.out).mono ?_; rintro e w2 ⟨hb2, rfl⟩; have HB2 : Hid (Below w.heap.size w w2) := Lib.hid (by have hb0 := HB1.out; exact (by repeat (first | with_reducible exact Below.refl _ _ | with_reducible assumption | with_reducible refine Below.drew ?_ | with_reducible refine Below.drewN ?_ _ | with_reducible refine Below.alloc2 ?_ _ | with_reducible refine Below.alloc ?_ (by first | omega | (simp <;> omega)) _ | with_reducible refine Below.setCell ?_ (by first | omega | (simp <;> omega)) _ | with_reducible refine Below.step2 (by with_reducible assumption) ?_ | with_reducible refine Below.step (by with_reducible assumption) ?_ (by first | omega | (simp <;> omega))))); clear hb2))
        go_ret
        exact ⟨HB2.out, rfl⟩
      · have hz : s.lenErr x = 0 := by unfold Sys.lenErr; rw [if_neg h1, if_neg h2]
        rw [hz]
        clear hz
        go_enter Try.func48, Try.ntmps48
        go_wp2_with (first | (go_at_call 51; refine (checkSystem_any _ _ _ _ _ _ _ _ (HS.out _ (by exact (by repeat (first | with_reducible exact Below.refl _ _ | with_reducible assumption | with_reducible refine Below.drew ?_ | with_reducible refine Below.drewN ?_ _ | with_reducible refine Below.alloc2 ?_ _ | with_reducible refine Below.alloc ?_ (by first | omega | (simp <;> omega)) _ | with_reducible refine Below.setCell ?_ (by first | omega | (simp <;> omega)) _ | with_reducible refine Below.step2 (by with_reducible assumption) ?_ | with_reducible refine Below.step (by with_reducible assumption) ?_ (by first | omega | (simp <;> omega))))))).mono ?_; rintro e w1 ⟨hb1, rfl⟩; rw [HE.out]; have HB1 : Hid (Below w.heap.size w w1) := Lib.hid (by exact (by repeat (first | with_reducible exact Below.refl _ _ | with_reducible assumption | with_reducible refine Below.drew ?_ | with_reducible refine Below.drewN ?_ _ | with_reducible refine Below.alloc2 ?_ _ | with_reducible refine Below.alloc ?_ (by first | omega | (simp <;> omega)) _ | with_reducible refine Below.setCell ?_ (by first | omega | (simp <;> omega)) _ | with_reducible refine Below.step2 (by with_reducible assumption) ?_ | with_reducible refine Below.step (by with_reducible assumption) ?_ (by first | omega | (simp <;> omega))))); have HK1 : Hid (Bk w1 w.heap.size 24 #[.slice A n c, .slice A2 n2 c2, .int .i64 s.width, .int .i64 s.gap, .int .i64 s.lift]) := Lib.hid (by exact (by repeat (first | with_reducible assumption | with_reducible exact Bk.at_ (by first | (simp; done) | omega) | with_reducible refine Bk.alloc ?_ _ | with_reducible refine Bk.drew ?_ | with_reducible refine Bk.drewN ?_ _ | with_reducible refine Bk.step (by with_reducible assumption) ?_ (by first | omega | (simp <;> omega))))); obtain ⟨⟨a0, a1, a2, a3, a4⟩, -⟩ := HK1.out.five; have oz1 := HB1.out.size; clear hb1) | (go_at_call 49; refine (unit_any _ _ _ _ _ _ _ _ (HS.out _ HB1.out) HOK.out).mono ?_; rintro e w2 ⟨hb2, rfl⟩; have HB2 : Hid (Below w.heap.size w w2) := Lib.hid (by have hb0 := HB1.out; exact (by repeat (first | with_reducible exact Below.refl _ _ | with_reducible assumption | with_reducible refine Below.drew ?_ | with_reducible refine Below.drewN ?_ _ | with_reducible refine Below.alloc2 ?_ _ | with_reducible refine Below.alloc ?_ (by first | omega | (simp <;> omega)) _ | with_reducible refine Below.setCell ?_ (by first | omega | (simp <;> omega)) _ | with_reducible refine Below.step2 (by with_reducible assumption) ?_ | with_reducible refine Below.step (by with_reducible assumption) ?_ (by first | omega | (simp <;> omega))))); clear hb2))
        go_ret
        exact ⟨HB2.out, rfl⟩
  · generalize hz : s.err = z at he
    rw [Sys.bothErr_bad hz he]
    have HZ := Lib.hid hz
    have hzb : (z == 0) = false := by simpa using he
    clear hz
    go_enter Try.func48, Try.ntmps48
    go_wp2_with (go_at_call 51; refine (checkSystem_any _ _ _ _ _ _ _ _ (HS.out _ (by exact (by repeat (first | with_reducible exact Below.refl _ _ | with_reducible assumption | with_reducible refine Below.drew ?_ | with_reducible refine Below.drewN ?_ _ | with_reducible refine Below.alloc2 ?_ _ | with_reducible refine Below.alloc ?_ (by first | omega | (simp <;> omega)) _ | with_reducible refine Below.setCell ?_ (by first | omega | (simp <;> omega)) _ | with_reducible refine Below.step2 (by with_reducible assumption) ?_ | with_reducible refine Below.step (by with_reducible assumption) ?_ (by first | omega | (simp <;> omega))))))).mono ?_; rintro e w1 ⟨hb1, rfl⟩; rw [HZ.out]; have HB1 : Hid (Below w.heap.size w w1) := Lib.hid (by exact (by repeat (first | with_reducible exact Below.refl _ _ | with_reducible assumption | with_reducible refine Below.drew ?_ | with_reducible refine Below.drewN ?_ _ | with_reducible refine Below.alloc2 ?_ _ | with_reducible refine Below.alloc ?_ (by first | omega | (simp <;> omega)) _ | with_reducible refine Below.setCell ?_ (by first | omega | (simp <;> omega)) _ | with_reducible refine Below.step2 (by with_reducible assumption) ?_ | with_reducible refine Below.step (by with_reducible assumption) ?_ (by first | omega | (simp <;> omega))))); have HK1 : Hid (Bk w1 w.heap.size 24 #[.slice A n c, .slice A2 n2 c2, .int .i64 s.width, .int .i64 s.gap, .int .i64 s.lift]) := Lib.hid (by exact (by repeat (first | with_reducible assumption | with_reducible exact Bk.at_ (by first | (simp; done) | omega) | with_reducible refine Bk.alloc ?_ _ | with_reducible refine Bk.drew ?_ | with_reducible refine Bk.drewN ?_ _ | with_reducible refine Bk.step (by with_reducible assumption) ?_ (by first | omega | (simp <;> omega))))); obtain ⟨⟨a0, a1, a2, a3, a4⟩, -⟩ := HK1.out.five; have oz1 := HB1.out.size; clear hb1)
    go_ret
    exact ⟨HB1.out, rfl⟩

set_option maxHeartbeats 4000000 in
theorem refLengthErr_any (A A2 : Option Addr) (n c n2 c2 : Nat) (s : Sys) (w : World) (h : SysAt w w.heap.size A n c A2 n2 c2 s) (hs : s.Ok) (x : Int) :
    Calls Try.prog 24 #[.agg #[.slice A n c, .slice A2 n2 c2, .int .i64 s.width, .int .i64 s.gap, .int .i64 s.lift], .int .i64 x] w fun e w' => Below w.heap.size w w' ∧ e = .returned (.int .i64 (s.lenErr x)) := by
  have hcapA := h.a.nums.cap; have hmaxA := h.a.nums.max; have hcapB := h.b.nums.cap; have hmaxB := h.b.nums.max; have HLA := Lib.hid h.a.nums.len; have HLB := Lib.hid h.b.nums.len; have H : Hid (∀ w', Below w.heap.size w w' → SysAt w' w.heap.size A n c A2 n2 c2 s) := fun w' hb => h.below hb (Nat.le_refl _) (Nat.le_refl _); have HS : Hid (∀ w', Below w.heap.size w w' → SysAt w' w'.heap.size A n c A2 n2 c2 s) := fun w' hb => h.below hb (Nat.le_refl _) hb.size; clear h
  have HOK := Lib.hid hs
  have hu := hs.unit_bd
  obtain ⟨hu1, hu2⟩ := hu
  have hw : IntKind.i64.wrap (4000 * s.unit) = 4000 * s.unit := IntWalk.i64_in _ (by omega)
  clear hs
  by_cases h1 : x < 0
  · have hz : s.lenErr x = 2 := by unfold Sys.lenErr; rw [if_pos h1]
    rw [hz]
    clear hz
    go_enter Try.func24, Try.ntmps24
    go_wp2
    go_ret
    exact ⟨(by repeat (first | with_reducible exact Below.refl _ _ | with_reducible assumption | with_reducible refine Below.drew ?_ | with_reducible refine Below.drewN ?_ _ | with_reducible refine Below.alloc2 ?_ _ | with_reducible refine Below.alloc ?_ (by first | omega | (simp <;> omega)) _ | with_reducible refine Below.setCell ?_ (by first | omega | (simp <;> omega)) _ | with_reducible refine Below.step2 (by with_reducible assumption) ?_ | with_reducible refine Below.step (by with_reducible assumption) ?_ (by first | omega | (simp <;> omega)))), rfl⟩
  · by_cases h2 : 4000 * s.unit < x
    · have hz : s.lenErr x = 8 := by unfold Sys.lenErr; rw [if_neg h1, if_pos h2]
      rw [hz]
      clear hz
      go_enter Try.func24, Try.ntmps24
      go_wp2_with (go_at_call 46; refine (refUnit_any _ _ _ _ _ _ _ _ (HS.out _ (by exact (by repeat (first | with_reducible exact Below.refl _ _ | with_reducible assumption | with_reducible refine Below.drew ?_ | with_reducible refine Below.drewN ?_ _ | with_reducible refine Below.alloc2 ?_ _ | with_reducible refine Below.alloc ?_ (by first | omega | (simp <;> omega)) _ | with_reducible refine Below.setCell ?_ (by first | omega | (simp <;> omega)) _ | with_reducible refine Below.step2 (by with_reducible assumption) ?_ | with_reducible refine Below.step (by with_reducible assumption) ?_ (by first | omega | (simp <;> omega)))))) HOK.out).mono ?_; rintro e w1 ⟨hb1, rfl⟩; have HB1 : Hid (Below w.heap.size w w1) := Lib.hid (by exact (by repeat (first | with_reducible exact Below.refl _ _ | with_reducible assumption | with_reducible refine Below.drew ?_ | with_reducible refine Below.drewN ?_ _ | with_reducible refine Below.alloc2 ?_ _ | with_reducible refine Below.alloc ?_ (by first | omega | (simp <;> omega)) _ | with_reducible refine Below.setCell ?_ (by first | omega | (simp <;> omega)) _ | with_reducible refine Below.step2 (by with_reducible assumption) ?_ | with_reducible refine Below.step (by with_reducible assumption) ?_ (by first | omega | (simp <;> omega))))); clear hb1)
      go_ret
      exact ⟨HB1.out, rfl⟩
    · have hz : s.lenErr x = 0 := by unfold Sys.lenErr; rw [if_neg h1, if_neg h2]
      rw [hz]
      clear hz
      go_enter Try.func24, Try.ntmps24
      go_wp2_with (go_at_call 46; refine (refUnit_any _ _ _ _ _ _ _ _ (HS.out _ (by exact (by repeat (first | with_reducible exact Below.refl _ _ | with_reducible assumption | with_reducible refine Below.drew ?_ | with_reducible refine Below.drewN ?_ _ | with_reducible refine Below.alloc2 ?_ _ | with_reducible refine Below.alloc ?_ (by first | omega | (simp <;> omega)) _ | with_reducible refine Below.setCell ?_ (by first | omega | (simp <;> omega)) _ | with_reducible refine Below.step2 (by with_reducible assumption) ?_ | with_reducible refine Below.step (by with_reducible assumption) ?_ (by first | omega | (simp <;> omega)))))) HOK.out).mono ?_; rintro e w1 ⟨hb1, rfl⟩; have HB1 : Hid (Below w.heap.size w w1) := Lib.hid (by exact (by repeat (first | with_reducible exact Below.refl _ _ | with_reducible assumption | with_reducible refine Below.drew ?_ | with_reducible refine Below.drewN ?_ _ | with_reducible refine Below.alloc2 ?_ _ | with_reducible refine Below.alloc ?_ (by first | omega | (simp <;> omega)) _ | with_reducible refine Below.setCell ?_ (by first | omega | (simp <;> omega)) _ | with_reducible refine Below.step2 (by with_reducible assumption) ?_ | with_reducible refine Below.step (by with_reducible assumption) ?_ (by first | omega | (simp <;> omega))))); clear hb1)
      go_ret
      exact ⟨HB1.out, rfl⟩

end Go.Proofs.Ytkcbfkflkepfeaa
