/- Chapter 6, walks: lists of numbers that ascend. -/
import Derived.Test.YtgljncfijcamhaaGreatDoorLow6
import Derived.Test.YtgljncfijcamhaaGreatDoorShelf
namespace Go.Proofs.YtgljncfijcamhaaGreatDoor
open Go.RowKit

def rise (l : List Int) : Bool := decide (∀ j, j < l.length - 1 → l.getD j 0 < l.getD (j + 1) 0)
theorem getD_of {l : List Int} {k : Nat} {x : Int} (h : l[k]? = some x) : l.getD k 0 = x := by rw [List.getD_eq_getElem?_getD, h]; rfl
theorem rise_iff {l : List Int} : rise l = true ↔ ∀ j, j < l.length - 1 → l.getD j 0 < l.getD (j + 1) 0 := by unfold rise; simp
theorem rise_not {l : List Int} {j : Nat} (hj : j < l.length - 1) (h : l.getD (j + 1) 0 ≤ l.getD j 0) : rise l = false := by
  rcases hr : rise l
  · rfl
  · have := rise_iff.1 hr j hj; omega

theorem cmp_lt {x y : Int} (h : x < y) (w : World) : Calls Tryz.prog 89 #[.int .i64 x, .int .i64 y] w fun e w' => e = .returned (.int .i64 (-1)) ∧ w' = w := by
  have := Tryz.cmp_Compare_int x y w
  rwa [show Lib.compareInt x y = -1 by unfold Lib.compareInt; rw [if_pos h]] at this
theorem cmp_eq {x y : Int} (h : x = y) (w : World) : Calls Tryz.prog 89 #[.int .i64 x, .int .i64 y] w fun e w' => e = .returned (.int .i64 0) ∧ w' = w := by
  have := Tryz.cmp_Compare_int x y w
  rwa [show Lib.compareInt x y = 0 by unfold Lib.compareInt; rw [if_neg (by omega), if_neg (by omega)]] at this
theorem cmp_gt {x y : Int} (h : y < x) (w : World) : Calls Tryz.prog 89 #[.int .i64 x, .int .i64 y] w fun e w' => e = .returned (.int .i64 1) ∧ w' = w := by
  have := Tryz.cmp_Compare_int x y w
  rwa [show Lib.compareInt x y = 1 by unfold Lib.compareInt; rw [if_neg (by omega), if_pos (by omega)]] at this

set_option maxHeartbeats 1000000 in
theorem refAscends_any (A : Option Addr) (n c : Nat) (l : List Int) (w : World) (h : Nums w w.heap.size A n c l) :
    Calls Tryz.prog 53 #[.slice A n c] w fun e w' => Below w.heap.size w w' ∧ e = .returned (.bool (rise l)) := by
  have hcap := h.cap
  have hmax := h.max
  have HLEN := Lib.hid h.len
  have H : Hid (∀ w', Below w.heap.size w w' → Nums w' w.heap.size A n c l) := fun w' hb => h.below hb (Nat.le_refl _) (Nat.le_refl _)
  clear h
  go_enter Tryz.func53, Tryz.ntmps53
  go_wp2
  go_loopw [3] (fun i wr => ∃ k : Nat, (k + 1 ≤ n ∨ k = 0) ∧ i = .int .i64 ((k + 1 : Nat) : Int) ∧ Hid (∀ j, j < k → l.getD j 0 < l.getD (j + 1) 0) ∧ Below w.heap.size w wr) (fun i _ => n - (intOf i).toNat)
  case atStart => exact ⟨0, .inr rfl, rfl, (fun j hj => absurd hj (Nat.not_lt_zero _) : ∀ j, j < 0 → l.getD j 0 < l.getD (j + 1) 0), Below.refl _ _⟩
  case round =>
    obtain ⟨k, hk, rfl, hall, hb⟩ := hrel
    by_cases hlt : k + 1 < n
    · obtain ⟨b, o, x, rfl, hbb, hx, c0⟩ := (H.out _ hb).at_ (show k < n by omega)
      obtain ⟨b', o', y, e, hbb', hy, c1⟩ := (H.out _ hb).at_ hlt
      obtain ⟨rfl, rfl⟩ : b = b' ∧ o = o' := by simpa using e
      have hw1 : IntKind.i64.wrap (((k + 1 : Nat) : Int) - 1) = (k : Int) := by rw [IntWalk.i64_in _ (by omega)]; omega
      have hw2 : IntKind.i64.wrap (((k : Nat) : Int) + 1 - 1) = (k : Int) := by rw [IntWalk.i64_in _ (by omega)]; omega
      have hw3 : IntKind.i64.wrap ((k : Nat) : Int) = (k : Int) := IntWalk.i64_in _ (by omega)
      have HX := Lib.hid (getD_of hx)
      have HY := Lib.hid (getD_of hy)
      have HB := Lib.hid hb
      have ow := hb.size
      have ob : b < wr.heap.size := by omega
      have z1 : (0 : Int) ≤ (k : Int) := by omega
      have z2 : (k : Int) < (n : Int) := by omega
      have z3 : (0 : Int) ≤ (k : Int) + 1 := by omega
      have z4 : (k : Int) + 1 < (n : Int) := by omega
      clear hb e hx hy hbb'
      by_cases hxy : y ≤ x
      · by_cases hxe : x = y
        · have hc := Lib.hid (fun W => cmp_eq hxe W)
          have HXE := Lib.hid hxe
          clear hxe
          go_wp2
          go_quiet (fail)
          go_wp2
          go_ret
          have hb := HB.out
          exact ⟨(by repeat (first | with_reducible exact Below.refl _ _ | with_reducible assumption | with_reducible refine Below.drew ?_ | with_reducible refine Below.drewN ?_ _ | with_reducible refine Below.alloc2 ?_ _ | with_reducible refine Below.alloc ?_ (by first | omega | (simp <;> omega)) _ | with_reducible refine Below.setCell ?_ (by first | omega | (simp <;> omega)) _ | with_reducible refine Below.step2 (by with_reducible assumption) ?_ | with_reducible refine Below.step (by with_reducible assumption) ?_ (by first | omega | (simp <;> omega)))), ret_bool (rise_not (j := k) (by rw [HLEN.out]; omega) (by rw [HX.out, HY.out]; omega)).symm⟩
        · have hc := Lib.hid (fun W => cmp_gt (x := x) (y := y) (by omega) W)
          clear hxe
          go_wp2
          go_quiet (fail)
          go_wp2
          go_ret
          have hb := HB.out
          exact ⟨(by repeat (first | with_reducible exact Below.refl _ _ | with_reducible assumption | with_reducible refine Below.drew ?_ | with_reducible refine Below.drewN ?_ _ | with_reducible refine Below.alloc2 ?_ _ | with_reducible refine Below.alloc ?_ (by first | omega | (simp <;> omega)) _ | with_reducible refine Below.setCell ?_ (by first | omega | (simp <;> omega)) _ | with_reducible refine Below.step2 (by with_reducible assumption) ?_ | with_reducible refine Below.step (by with_reducible assumption) ?_ (by first | omega | (simp <;> omega)))), ret_bool (rise_not (j := k) (by rw [HLEN.out]; omega) (by rw [HX.out, HY.out]; omega)).symm⟩
      · have hc := Lib.hid (fun W => cmp_lt (x := x) (y := y) (by omega) W)
        go_wp2
        go_quiet (fail)
        go_wp2
        go_roundw
        case rel =>
          have hb := HB.out
          refine ⟨k + 1, .inl (by omega), by go_num, (fun j hj => ?_ : ∀ j, j < k + 1 → l.getD j 0 < l.getD (j + 1) 0), (by repeat (first | with_reducible exact Below.refl _ _ | with_reducible assumption | with_reducible refine Below.drew ?_ | with_reducible refine Below.drewN ?_ _ | with_reducible refine Below.alloc2 ?_ _ | with_reducible refine Below.alloc ?_ (by first | omega | (simp <;> omega)) _ | with_reducible refine Below.setCell ?_ (by first | omega | (simp <;> omega)) _ | with_reducible refine Below.step2 (by with_reducible assumption) ?_ | with_reducible refine Below.step (by with_reducible assumption) ?_ (by first | omega | (simp <;> omega))))⟩
          rcases Nat.lt_or_ge j k with hj' | hj'
          · exact hall.out j hj'
          · obtain rfl : j = k := by omega
            rw [HX.out, HY.out]
            omega
        case measure => simp [intOf]; omega
    · have HB := Lib.hid hb
      clear hb
      go_wp2
      go_ret
      exact ⟨HB.out, ret_bool (rise_iff.2 (fun j hj => hall.out j (by rw [HLEN.out] at hj; omega))).symm⟩

set_option maxHeartbeats 1000000 in
theorem ascend_int (A : Option Addr) (n c : Nat) (l : List Int) (w : World) (h : Nums w w.heap.size A n c l) :
    Calls Tryz.prog 88 #[.slice A n c, .func (.func 89) #[] #[]] w fun e w' => Below w.heap.size w w' ∧ e = .returned (.bool (rise l)) := by
  have hcap := h.cap
  have hmax := h.max
  have HLEN := Lib.hid h.len
  have H : Hid (∀ w', Below w.heap.size w w' → Nums w' w.heap.size A n c l) := fun w' hb => h.below hb (Nat.le_refl _) (Nat.le_refl _)
  clear h
  go_enter Tryz.func88, Tryz.ntmps88
  go_wp2
  go_loopw [5] (fun i wr => ∃ k : Nat, (k + 1 ≤ n ∨ k = 0) ∧ i = .int .i64 ((k + 1 : Nat) : Int) ∧ Hid (∀ j, j < k → l.getD j 0 < l.getD (j + 1) 0) ∧ Below w.heap.size w wr) (fun i _ => n - (intOf i).toNat)
  case atStart => exact ⟨0, .inr rfl, rfl, (fun j hj => absurd hj (Nat.not_lt_zero _) : ∀ j, j < 0 → l.getD j 0 < l.getD (j + 1) 0), Below.refl _ _⟩
  case round =>
    obtain ⟨k, hk, rfl, hall, hb⟩ := hrel
    by_cases hlt : k + 1 < n
    · obtain ⟨b, o, x, rfl, hbb, hx, c0⟩ := (H.out _ hb).at_ (show k < n by omega)
      obtain ⟨b', o', y, e, hbb', hy, c1⟩ := (H.out _ hb).at_ hlt
      obtain ⟨rfl, rfl⟩ : b = b' ∧ o = o' := by simpa using e
      have hw1 : IntKind.i64.wrap (((k + 1 : Nat) : Int) - 1) = (k : Int) := by rw [IntWalk.i64_in _ (by omega)]; omega
      have hw2 : IntKind.i64.wrap (((k : Nat) : Int) + 1 - 1) = (k : Int) := by rw [IntWalk.i64_in _ (by omega)]; omega
      have hw3 : IntKind.i64.wrap ((k : Nat) : Int) = (k : Int) := IntWalk.i64_in _ (by omega)
      have HX := Lib.hid (getD_of hx)
      have HY := Lib.hid (getD_of hy)
      have HB := Lib.hid hb
      have ow := hb.size
      have ob : b < wr.heap.size := by omega
      have z1 : (0 : Int) ≤ (k : Int) := by omega
      have z2 : (k : Int) < (n : Int) := by omega
      have z3 : (0 : Int) ≤ (k : Int) + 1 := by omega
      have z4 : (k : Int) + 1 < (n : Int) := by omega
      clear hb e hx hy hbb'
      by_cases hxy : y ≤ x
      · by_cases hxe : x = y
        · have hc := Lib.hid (fun W => cmp_eq hxe W)
          have HXE := Lib.hid hxe
          clear hxe
          go_wp2
          go_region_held3 (fun w' => w'.cell? ⟨b, o + (k + 1), none⟩ = some (.int .i64 y) ∧ w'.cell? ⟨b, o + k, none⟩ = some (.int .i64 x)) (go_keep) ((go_at_call 89; refine (hc.out _).mono ?_; rintro e w1 ⟨rfl, rfl⟩))
          go_wp2
          go_ret
          have hb := HB.out
          exact ⟨(by repeat (first | with_reducible exact Below.refl _ _ | with_reducible assumption | with_reducible refine Below.drew ?_ | with_reducible refine Below.drewN ?_ _ | with_reducible refine Below.alloc2 ?_ _ | with_reducible refine Below.alloc ?_ (by first | omega | (simp <;> omega)) _ | with_reducible refine Below.setCell ?_ (by first | omega | (simp <;> omega)) _ | with_reducible refine Below.step2 (by with_reducible assumption) ?_ | with_reducible refine Below.step (by with_reducible assumption) ?_ (by first | omega | (simp <;> omega)))), ret_bool (rise_not (j := k) (by rw [HLEN.out]; omega) (by rw [HX.out, HY.out]; omega)).symm⟩
        · have hc := Lib.hid (fun W => cmp_gt (x := x) (y := y) (by omega) W)
          clear hxe
          go_wp2
          go_region_held3 (fun w' => w'.cell? ⟨b, o + (k + 1), none⟩ = some (.int .i64 y) ∧ w'.cell? ⟨b, o + k, none⟩ = some (.int .i64 x)) (go_keep) ((go_at_call 89; refine (hc.out _).mono ?_; rintro e w1 ⟨rfl, rfl⟩))
          go_wp2
          go_ret
          have hb := HB.out
          exact ⟨(by repeat (first | with_reducible exact Below.refl _ _ | with_reducible assumption | with_reducible refine Below.drew ?_ | with_reducible refine Below.drewN ?_ _ | with_reducible refine Below.alloc2 ?_ _ | with_reducible refine Below.alloc ?_ (by first | omega | (simp <;> omega)) _ | with_reducible refine Below.setCell ?_ (by first | omega | (simp <;> omega)) _ | with_reducible refine Below.step2 (by with_reducible assumption) ?_ | with_reducible refine Below.step (by with_reducible assumption) ?_ (by first | omega | (simp <;> omega)))), ret_bool (rise_not (j := k) (by rw [HLEN.out]; omega) (by rw [HX.out, HY.out]; omega)).symm⟩
      · have hc := Lib.hid (fun W => cmp_lt (x := x) (y := y) (by omega) W)
        go_wp2
        go_region_held3 (fun w' => w'.cell? ⟨b, o + (k + 1), none⟩ = some (.int .i64 y) ∧ w'.cell? ⟨b, o + k, none⟩ = some (.int .i64 x)) (go_keep) ((go_at_call 89; refine (hc.out _).mono ?_; rintro e w1 ⟨rfl, rfl⟩))
        go_wp2
        go_roundw
        case rel =>
          have hb := HB.out
          refine ⟨k + 1, .inl (by omega), by go_num, (fun j hj => ?_ : ∀ j, j < k + 1 → l.getD j 0 < l.getD (j + 1) 0), (by repeat (first | with_reducible exact Below.refl _ _ | with_reducible assumption | with_reducible refine Below.drew ?_ | with_reducible refine Below.drewN ?_ _ | with_reducible refine Below.alloc2 ?_ _ | with_reducible refine Below.alloc ?_ (by first | omega | (simp <;> omega)) _ | with_reducible refine Below.setCell ?_ (by first | omega | (simp <;> omega)) _ | with_reducible refine Below.step2 (by with_reducible assumption) ?_ | with_reducible refine Below.step (by with_reducible assumption) ?_ (by first | omega | (simp <;> omega))))⟩
          rcases Nat.lt_or_ge j k with hj' | hj'
          · exact hall.out j hj'
          · obtain rfl : j = k := by omega
            rw [HX.out, HY.out]
            omega
        case measure => simp [intOf]; omega
    · have HB := Lib.hid hb
      clear hb
      go_wp2
      go_ret
      exact ⟨HB.out, ret_bool (rise_iff.2 (fun j hj => hall.out j (by rw [HLEN.out] at hj; omega))).symm⟩

end Go.Proofs.YtgljncfijcamhaaGreatDoor
