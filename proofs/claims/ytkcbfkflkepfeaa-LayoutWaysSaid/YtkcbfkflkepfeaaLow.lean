/- Walks that need no system: Within, Abs, Gcd, commonDivisor, rising, falling, Has. -/
import Derived.Test.YtkcbfkflkepfeaaSys
import Derived.Test.YtkcbfkflkepfeaaProg
import Derived.StillTailTactics
import Derived.IntWalk
import Derived.BigQuiet
import Derived.Deep.RegionHeld3
import Derived.Deep.QuietTactic
namespace Go.Proofs.Ytkcbfkflkepfeaa
open Go.RowKit

set_option maxHeartbeats 400000 in
theorem within_any (n a b : Int) (w : World) : Calls Try.prog 34 #[.int .i64 n, .int .i64 a, .int .i64 b] w fun e w' => w = w' ∧ e = .returned (.bool (decide (a ≤ n ∧ n ≤ b))) := by
  by_cases h1 : a ≤ n <;> by_cases h2 : n ≤ b
  all_goals
    go_enter Try.func34, Try.ntmps34
    go_wp2
    go_ret
    exact ⟨rfl, ret_bool (by simp [h1, h2])⟩

/-- The size of a number. -/
def absI (x : Int) : Int := max x (-x)
set_option maxHeartbeats 400000 in
theorem abs_any (x : Int) (w : World) (h1 : -9000000000000000000 ≤ x) (h2 : x ≤ 9000000000000000000) : Calls Try.prog 70 #[.int .i64 x] w fun e w' => w = w' ∧ e = .returned (.int .i64 (absI x)) := by
  unfold absI
  by_cases h : x < 0
  all_goals
    go_enter Try.func70, Try.ntmps70
    go_wp2
    go_ret
    exact ⟨rfl, ret_int (by omega)⟩

set_option maxHeartbeats 1000000 in
theorem commonDivisor_any (a b : Nat) (w : World) (ha : a ≤ 1000000) (hb : b ≤ 1000000) :
    Calls Try.prog 62 #[.int .i64 (a : Int), .int .i64 (b : Int)] w fun e w' => Below w.heap.size w w' ∧ e = .returned (.int .i64 ((Nat.gcd a b : Nat) : Int)) := by
  go_enter Try.func62, Try.ntmps62
  go_wp2
  go_loopw [0, 1] (fun s t wr => ∃ x y : Nat, s = .int .i64 (x : Int) ∧ t = .int .i64 (y : Int) ∧ Hid (Nat.gcd x y = Nat.gcd a b) ∧ x ≤ 1000000 ∧ y ≤ 1000000 ∧ Below w.heap.size w wr) (fun _ t _ => (intOf t).toNat)
  case atStart => exact ⟨a, b, rfl, rfl, Lib.hid rfl, ha, hb, Below.refl _ _⟩
  case round =>
    obtain ⟨x, y, rfl, rfl, hg, hx, hy, hbl⟩ := hrel
    have HB := Lib.hid hbl
    clear hbl
    by_cases hy0 : y = 0
    · subst hy0
      go_wp2
      go_ret; exact ⟨HB.out, ret_int (by rw [← hg.out]; simp)⟩
    · have hyz : ((y : Int) == 0) = false := by simp; omega
      have hyi : ¬ (y : Int) = 0 := by omega
      have hrem : IntKind.i64.wrap ((x : Int).tmod (y : Int)) = ((x % y : Nat) : Int) := by
        rw [← Int.ofNat_tmod]
        exact IntWalk.i64_in _ (by have := Nat.mod_le x y; omega)
      go_wp2
      go_quiet (fail)
      go_wp2
      go_roundw
      case rel =>
        have hbl := HB.out
        have hm := Nat.mod_lt x (show y > 0 by omega)
        exact ⟨y, x % y, rfl, by rw [Int.natCast_emod], Lib.hid ((gcd_step x y).trans hg.out), hy, by omega, (by repeat (first | with_reducible exact Below.refl _ _ | with_reducible assumption | with_reducible refine Below.drew ?_ | with_reducible refine Below.drewN ?_ _ | with_reducible refine Below.alloc2 ?_ _ | with_reducible refine Below.alloc ?_ (by first | omega | (simp <;> omega)) _ | with_reducible refine Below.setCell ?_ (by first | omega | (simp <;> omega)) _ | with_reducible refine Below.step2 (by with_reducible assumption) ?_ | with_reducible refine Below.step (by with_reducible assumption) ?_ (by first | omega | (simp <;> omega))))⟩
      case measure =>
        have hm := Nat.mod_lt x (show y > 0 by omega)
        simp [intOf]
        omega

set_option maxHeartbeats 1000000 in
theorem refGcd_any (a b : Nat) (w : World) (ha : a ≤ 1000000) (hb : b ≤ 1000000) :
    Calls Try.prog 60 #[.int .i64 (a : Int), .int .i64 (b : Int)] w fun e w' => Below w.heap.size w w' ∧ e = .returned (.int .i64 ((Nat.gcd a b : Nat) : Int)) := by
  go_enter Try.func60, Try.ntmps60
  go_wp2
  go_loopw [0, 1] (fun s t wr => ∃ x y : Nat, s = .int .i64 (x : Int) ∧ t = .int .i64 (y : Int) ∧ Hid (Nat.gcd x y = Nat.gcd a b) ∧ x ≤ 1000000 ∧ y ≤ 1000000 ∧ Below w.heap.size w wr) (fun _ t _ => (intOf t).toNat)
  case atStart => exact ⟨a, b, rfl, rfl, Lib.hid rfl, ha, hb, Below.refl _ _⟩
  case round =>
    obtain ⟨x, y, rfl, rfl, hg, hx, hy, hbl⟩ := hrel
    have HB := Lib.hid hbl
    clear hbl
    by_cases hy0 : y = 0
    · subst hy0
      go_wp2
      go_ret; exact ⟨HB.out, ret_int (by rw [← hg.out]; simp)⟩
    · have hyz : ((y : Int) == 0) = false := by simp; omega
      have hyi : ¬ (y : Int) = 0 := by omega
      have hrem : IntKind.i64.wrap ((x : Int).tmod (y : Int)) = ((x % y : Nat) : Int) := by
        rw [← Int.ofNat_tmod]
        exact IntWalk.i64_in _ (by have := Nat.mod_le x y; omega)
      go_wp2
      go_quiet (fail)
      go_wp2
      go_roundw
      case rel =>
        have hbl := HB.out
        have hm := Nat.mod_lt x (show y > 0 by omega)
        exact ⟨y, x % y, rfl, by rw [Int.natCast_emod], Lib.hid ((gcd_step x y).trans hg.out), hy, by omega, (by repeat (first | with_reducible exact Below.refl _ _ | with_reducible assumption | with_reducible refine Below.drew ?_ | with_reducible refine Below.drewN ?_ _ | with_reducible refine Below.alloc2 ?_ _ | with_reducible refine Below.alloc ?_ (by first | omega | (simp <;> omega)) _ | with_reducible refine Below.setCell ?_ (by first | omega | (simp <;> omega)) _ | with_reducible refine Below.step2 (by with_reducible assumption) ?_ | with_reducible refine Below.step (by with_reducible assumption) ?_ (by first | omega | (simp <;> omega))))⟩
      case measure =>
        have hm := Nat.mod_lt x (show y > 0 by omega)
        simp [intOf]
        omega

set_option maxHeartbeats 1000000 in
theorem refRising_any (A : Option Addr) (n c : Nat) (l : List Int) (w : World) (h : Nums w w.heap.size A n c l) :
    Calls Try.prog 40 #[.slice A n c] w fun e w' => Below w.heap.size w w' ∧ e = .returned (.bool (rise l)) := by
  have hcap := h.cap
  have hmax := h.max
  have HLEN := Lib.hid h.len
  have H : Hid (∀ w', Below w.heap.size w w' → Nums w' w.heap.size A n c l) := fun w' hb => h.below hb (Nat.le_refl _) (Nat.le_refl _)
  clear h
  go_enter Try.func40, Try.ntmps40
  go_wp2
  go_loopw [3] (fun i wr => ∃ k : Nat, (k + 1 ≤ n ∨ k = 0) ∧ i = .int .i64 ((k + 1 : Nat) : Int) ∧ Hid (∀ j, j < k → l.getD j 0 < l.getD (j + 1) 0) ∧ Below w.heap.size w wr) (fun i _ => n - (intOf i).toNat)
  case atStart => exact ⟨0, .inr rfl, rfl, (fun j hj => absurd hj (Nat.not_lt_zero _) : ∀ j, j < 0 → l.getD j 0 < l.getD (j + 1) 0), Below.refl _ _⟩
  case round =>
    obtain ⟨k, hk, rfl, hall, hb⟩ := hrel
    by_cases hlt : k + 1 < n
    · obtain ⟨b, o, x, rfl, hbb, hx, c0⟩ := (H.out _ hb).at_ (show k < n by omega)
      obtain ⟨b', o', y, e, hbb', hy, c1⟩ := (H.out _ hb).at_ hlt
      obtain ⟨rfl, rfl⟩ : b = b' ∧ o = o' := by simpa using e
      have hw1 : IntKind.i64.wrap (((k + 1 : Nat) : Int) - 1) = (k : Int) := by rw [IntWalk.i64_in _ (by omega)]; omega
      have hw2 : IntKind.i64.wrap (((k : Nat) : Int) + 1 - 1) = (k : Int) := by rw [IntWalk.i64_in _ (by omega)]; omega
      have HX := Lib.hid (getD_of hx)
      have HY := Lib.hid (getD_of hy)
      have HB := Lib.hid hb
      have ow := hb.size
      have ob : b < wr.heap.size := by omega
      clear hb e hx hy hbb'
      by_cases hxy : y ≤ x
      · have hxi : y ≤ x := by simpa using hxy
        go_wp2
        go_quiet (fail)
        go_wp2
        go_ret
        have hb := HB.out
        exact ⟨(by repeat (first | with_reducible exact Below.refl _ _ | with_reducible assumption | with_reducible refine Below.drew ?_ | with_reducible refine Below.drewN ?_ _ | with_reducible refine Below.alloc2 ?_ _ | with_reducible refine Below.alloc ?_ (by first | omega | (simp <;> omega)) _ | with_reducible refine Below.setCell ?_ (by first | omega | (simp <;> omega)) _ | with_reducible refine Below.step2 (by with_reducible assumption) ?_ | with_reducible refine Below.step (by with_reducible assumption) ?_ (by first | omega | (simp <;> omega)))), ret_bool (rise_not (j := k) (by rw [HLEN.out]; omega) (by rw [HX.out, HY.out]; omega)).symm⟩
      · go_wp2
        go_quiet (fail)
        go_wp2
        go_roundw
        case rel =>
          have hb := HB.out
          refine ⟨k + 1, .inl (by omega), by go_num, (fun j hj => ?_ : ∀ j, j < k + 1 → l.getD j 0 < l.getD (j + 1) 0), (by repeat (first | with_reducible exact Below.refl _ _ | with_reducible assumption | with_reducible refine Below.drew ?_ | with_reducible refine Below.drewN ?_ _ | with_reducible refine Below.alloc2 ?_ _ | with_reducible refine Below.alloc ?_ (by first | omega | (simp <;> omega)) _ | with_reducible refine Below.setCell ?_ (by first | omega | (simp <;> omega)) _ | with_reducible refine Below.step2 (by with_reducible assumption) ?_ | with_reducible refine Below.step (by with_reducible assumption) ?_ (by first | omega | (simp <;> omega))))⟩
          rcases Nat.lt_or_ge j k with hj' | hj'
          · exact hall.out j hj'
          · obtain rfl : j = k := by omega
            rw [HX.out, HY.out]
            omega
        case measure => simp [intOf]; omega
    · have HB := Lib.hid hb
      clear hb
      go_wp2
      go_ret
      exact ⟨HB.out, ret_bool (rise_iff.2 (fun j hj => hall.out j (by rw [HLEN.out] at hj; omega))).symm⟩

set_option maxHeartbeats 1000000 in
theorem refFalling_any (A : Option Addr) (n c : Nat) (l : List Int) (w : World) (h : Nums w w.heap.size A n c l) :
    Calls Try.prog 42 #[.slice A n c] w fun e w' => Below w.heap.size w w' ∧ e = .returned (.bool (fall l)) := by
  have hcap := h.cap
  have hmax := h.max
  have HLEN := Lib.hid h.len
  have H : Hid (∀ w', Below w.heap.size w w' → Nums w' w.heap.size A n c l) := fun w' hb => h.below hb (Nat.le_refl _) (Nat.le_refl _)
  clear h
  go_enter Try.func42, Try.ntmps42
  go_wp2
  go_loopw [3] (fun i wr => ∃ k : Nat, (k + 1 ≤ n ∨ k = 0) ∧ i = .int .i64 ((k + 1 : Nat) : Int) ∧ Hid (∀ j, j < k → l.getD (j + 1) 0 ≤ l.getD j 0) ∧ Below w.heap.size w wr) (fun i _ => n - (intOf i).toNat)
  case atStart => exact ⟨0, .inr rfl, rfl, (fun j hj => absurd hj (Nat.not_lt_zero _) : ∀ j, j < 0 → l.getD (j + 1) 0 ≤ l.getD j 0), Below.refl _ _⟩
  case round =>
    obtain ⟨k, hk, rfl, hall, hb⟩ := hrel
    by_cases hlt : k + 1 < n
    · obtain ⟨b, o, x, rfl, hbb, hx, c0⟩ := (H.out _ hb).at_ (show k < n by omega)
      obtain ⟨b', o', y, e, hbb', hy, c1⟩ := (H.out _ hb).at_ hlt
      obtain ⟨rfl, rfl⟩ : b = b' ∧ o = o' := by simpa using e
      have hw1 : IntKind.i64.wrap (((k + 1 : Nat) : Int) - 1) = (k : Int) := by rw [IntWalk.i64_in _ (by omega)]; omega
      have hw2 : IntKind.i64.wrap (((k : Nat) : Int) + 1 - 1) = (k : Int) := by rw [IntWalk.i64_in _ (by omega)]; omega
      have HX := Lib.hid (getD_of hx)
      have HY := Lib.hid (getD_of hy)
      have HB := Lib.hid hb
      have ow := hb.size
      have ob : b < wr.heap.size := by omega
      clear hb e hx hy hbb'
      by_cases hxy : x < y
      · have hxi : x < y := by simpa using hxy
        go_wp2
        go_quiet (fail)
        go_wp2
        go_ret
        have hb := HB.out
        exact ⟨(by repeat (first | with_reducible exact Below.refl _ _ | with_reducible assumption | with_reducible refine Below.drew ?_ | with_reducible refine Below.drewN ?_ _ | with_reducible refine Below.alloc2 ?_ _ | with_reducible refine Below.alloc ?_ (by first | omega | (simp <;> omega)) _ | with_reducible refine Below.setCell ?_ (by first | omega | (simp <;> omega)) _ | with_reducible refine Below.step2 (by with_reducible assumption) ?_ | with_reducible refine Below.step (by with_reducible assumption) ?_ (by first | omega | (simp <;> omega)))), ret_bool (fall_not (j := k) (by rw [HLEN.out]; omega) (by rw [HX.out, HY.out]; omega)).symm⟩
      · go_wp2
        go_quiet (fail)
        go_wp2
        go_roundw
        case rel =>
          have hb := HB.out
          refine ⟨k + 1, .inl (by omega), by go_num, (fun j hj => ?_ : ∀ j, j < k + 1 → l.getD (j + 1) 0 ≤ l.getD j 0), (by repeat (first | with_reducible exact Below.refl _ _ | with_reducible assumption | with_reducible refine Below.drew ?_ | with_reducible refine Below.drewN ?_ _ | with_reducible refine Below.alloc2 ?_ _ | with_reducible refine Below.alloc ?_ (by first | omega | (simp <;> omega)) _ | with_reducible refine Below.setCell ?_ (by first | omega | (simp <;> omega)) _ | with_reducible refine Below.step2 (by with_reducible assumption) ?_ | with_reducible refine Below.step (by with_reducible assumption) ?_ (by first | omega | (simp <;> omega))))⟩
          rcases Nat.lt_or_ge j k with hj' | hj'
          · exact hall.out j hj'
          · obtain rfl : j = k := by omega
            rw [HX.out, HY.out]
            omega
        case measure => simp [intOf]; omega
    · have HB := Lib.hid hb
      clear hb
      go_wp2
      go_ret
      exact ⟨HB.out, ret_bool (fall_iff.2 (fun j hj => hall.out j (by rw [HLEN.out] at hj; omega))).symm⟩

set_option maxHeartbeats 1000000 in
theorem has_any (A : Option Addr) (n c : Nat) (l : List Int) (x : Int) (w : World) (h : Nums w w.heap.size A n c l) :
    Calls Try.prog 41 #[.slice A n c, .int .i64 x] w fun e w' => w = w' ∧ e = .returned (.bool (l.contains x)) := by
  have hcap := h.cap
  have hmax := h.max
  have HLEN := Lib.hid h.len
  go_enter Try.func41, Try.ntmps41
  go_wp2
  go_loop [5] (fun i => ∃ k : Nat, k ≤ n ∧ i = .int .i64 k ∧ Hid (∀ j, j < k → l[j]? ≠ some x)) (fun i => n - (intOf i).toNat)
  case atStart => exact ⟨0, Nat.zero_le _, rfl, (fun j hj => absurd hj (Nat.not_lt_zero _) : ∀ j, j < 0 → l[j]? ≠ some x)⟩
  case round =>
    obtain ⟨k, hk, rfl, hall⟩ := hrel
    by_cases hlt : k < n
    · obtain ⟨b, o, y, rfl, hb, hy, hc⟩ := h.at_ hlt
      have HY := Lib.hid hy
      clear hy
      by_cases hxy : y = x
      · subst hxy
        go_wp2
        go_ret
        exact ⟨rfl, ret_bool (by simp; exact List.mem_of_getElem? HY.out)⟩
      · have hxb : (y == x) = false := by simpa using hxy
        go_wp2
        go_round
        case rel =>
          refine ⟨k + 1, by omega, by go_num, (fun j hj => ?_ : ∀ j, j < k + 1 → l[j]? ≠ some x)⟩
          rcases Nat.lt_or_ge j k with hj' | hj'
          · exact hall.out j hj'
          · obtain rfl : j = k := by omega
            rw [HY.out]
            simpa using hxy
        case measure => simp [intOf]; omega
    · go_wp2
      go_ret
      refine ⟨rfl, ret_bool ?_⟩
      have hm : ¬ x ∈ l := by
        intro hm
        obtain ⟨j, hj⟩ := List.getElem?_of_mem hm
        exact absurd hj (hall.out j (by have := (List.getElem?_eq_some_iff.1 hj).1; rw [HLEN.out] at this; omega))
      simp [hm]

end Go.Proofs.Ytkcbfkflkepfeaa
