/- Chapter 6, walks: Datum of the reference; a number in a list. -/
import Derived.Test.YtgljncfijcamhaaGreatDoorDatum6
namespace Go.Proofs.YtgljncfijcamhaaGreatDoor
open Go.RowKit

set_option maxRecDepth 100000 in
set_option maxHeartbeats 8000000 in
theorem refDatum_any (A : Option Addr) (n c : Nat) (hs : List Int) (lo hi so : Int) (w : World) (hh : Nums w w.heap.size A n c hs) (hn1 : 1 ≤ n) (hn : n ≤ 60) (bh : allIn (-1000000) 1000000 hs = true) (hso : 0 ≤ so ∧ so ≤ 10000) (hlo : 0 ≤ lo ∧ lo ≤ 10000) :
    Calls Tryz.prog 26 #[.slice A n c, .agg #[.int .i64 lo, .int .i64 hi, .int .i64 so]] w fun e w' => Below w.heap.size w w' ∧ e = .returned (.tuple #[.int .i64 (mxT hs n + so + lo), .bool (allIn lo hi (exts (mxT hs n + so + lo) so hs))]) := by
  have hcap := hh.cap
  have hmax := hh.max
  have HLEN := Lib.hid hh.len
  have HBT : Hid (∀ x ∈ hs, -1000000 ≤ x ∧ x ≤ 1000000) := Lib.hid fun x hx => by simpa using List.all_eq_true.1 bh x hx
  have hn0 : (0 : Int) < (n : Int) := by omega
  have HH : Hid (∀ w', Below w.heap.size w w' → Nums w' w'.heap.size A n c hs) := Lib.hid fun w' hb => hh.below hb (Nat.le_refl _) hb.size
  have CE : Hid (∀ D : Int, -4000000 ≤ D ∧ D ≤ 4000000 → ∀ w', Below w.heap.size w w' → Calls Tryz.prog 25 #[.slice A n c, .agg #[.int .i64 lo, .int .i64 hi, .int .i64 so], .int .i64 D] w' fun e w'' => Below w'.heap.size w' w'' ∧ ∃ A' c', e = .returned (.tuple #[.slice A' n c', .bool (allIn lo hi (exts D so hs))]) ∧ Nums w'' w''.heap.size A' n c' (exts D so hs)) := Lib.hid fun D hD w' hb =>
    refExt_any A n c hs lo hi so D w' (HH.out w' hb) hn bh hso hD
  have hbl : Below w.heap.size w (w.alloc (.cells #[.int .i64 lo, .int .i64 hi, .int .i64 so] 52)) := (by repeat (first | with_reducible exact Below.refl _ _ | with_reducible assumption | with_reducible refine Below.drew ?_ | with_reducible refine Below.drewN ?_ _ | with_reducible refine Below.alloc2 ?_ _ | with_reducible refine Below.alloc ?_ (by first | omega | (simp <;> omega)) _ | with_reducible refine Below.setCell ?_ (by first | omega | (simp <;> omega)) _ | with_reducible refine Below.step2 (by with_reducible assumption) ?_ | with_reducible refine Below.step (by with_reducible assumption) ?_ (by first | omega | (simp <;> omega))))
  obtain ⟨b, o, x, rfl, hbb, hx, c0⟩ := (hh.below hbl (Nat.le_refl _) hbl.size).at_ (show 0 < n by omega)
  have HM0 : Hid (mxT hs 0 = x) := Lib.hid (by simp [mxT, List.getD_eq_getElem?_getD, hx])
  rw [Nat.add_zero] at c0
  clear hx hbl hh bh
  go_enter Tryz.func26, Tryz.ntmps26
  go_wp2
  have hbq : Below w.heap.size w (w.alloc (.cells #[.int .i64 lo, .int .i64 hi, .int .i64 so] 52)) := (by repeat (first | with_reducible exact Below.refl _ _ | with_reducible assumption | with_reducible refine Below.drew ?_ | with_reducible refine Below.drewN ?_ _ | with_reducible refine Below.alloc2 ?_ _ | with_reducible refine Below.alloc ?_ (by first | omega | (simp <;> omega)) _ | with_reducible refine Below.setCell ?_ (by first | omega | (simp <;> omega)) _ | with_reducible refine Below.step2 (by with_reducible assumption) ?_ | with_reducible refine Below.step (by with_reducible assumption) ?_ (by first | omega | (simp <;> omega))))
  have HBQ := Lib.hid hbq
  have kj : Bk (w.alloc (.cells #[.int .i64 lo, .int .i64 hi, .int .i64 so] 52)) w.heap.size 52 #[.int .i64 lo, .int .i64 hi, .int .i64 so] := (by repeat (first | with_reducible assumption | with_reducible exact Bk.at_ (by first | (simp; done) | omega) | with_reducible refine Bk.alloc ?_ _ | with_reducible refine Bk.drew ?_ | with_reducible refine Bk.drewN ?_ _ | with_reducible refine Bk.step (by with_reducible assumption) ?_ (by first | omega | (simp <;> omega))))
  obtain ⟨⟨j0, j1, j2⟩, -⟩ := kj.three
  clear kj hbq
  go_loop [6, 7] (fun p y => ∃ k : Nat, k ≤ n ∧ y = .int .i64 k ∧ p = .int .i64 (mxT hs k)) (fun _ y => n - (intOf y).toNat)
  case atStart => exact ⟨0, Nat.zero_le _, rfl, by rw [HM0.out]⟩
  case round =>
    obtain ⟨k, hk, rfl, rfl⟩ := hrel
    by_cases hlt : k < n
    · obtain ⟨b', o', y, hbo, hbb2, hx, c1⟩ := (HH.out _ HBQ.out).at_ hlt
      obtain ⟨rfl, rfl⟩ : b = b' ∧ o = o' := by simpa using hbo
      have HM := Lib.hid (mxT_step hx)
      generalize mxT hs k = P at *
      clear hx hbo
      go_wp2
      go_round
      case rel => exact ⟨k + 1, by omega, by go_num, by rw [HM.out]⟩
      case measure => (simp [intOf]; omega)
    · obtain rfl : k = n := by omega
      have h1 := mxT_bd HBT.out (by rw [HLEN.out]; omega) k
      obtain ⟨P, hP⟩ : ∃ P, mxT hs k = P := ⟨_, rfl⟩
      rw [hP] at h1
      have HP := Lib.hid hP
      rw [hP]
      clear hP
      have hw1 : IntKind.i64.wrap (P + so) = P + so := IntWalk.i64_in _ (by omega)
      have hw2 : IntKind.i64.wrap (P + so + lo) = P + so + lo := IntWalk.i64_in _ (by omega)
      have CE2 := Lib.hid (CE.out (P + so + lo) (by omega))
      go_wp2_with (first
        | (go_at_call 25; with_reducible refine (CE2.out _ ?_).mono ?_; (focus (exact HBQ.out)); rintro e w1 ⟨hb1, A', c', rfl, -⟩))
      refine bodyPost_ret (results_tmp2 rfl _ _ _) rfl ?_
      simp only [HP.out]
      exact ⟨HBQ.out.trans (hb1.mono HBQ.out.size), rfl⟩

set_option maxHeartbeats 1000000 in
theorem has_any (A : Option Addr) (n c : Nat) (l : List Int) (x : Int) (w : World) (h : Nums w w.heap.size A n c l) (hx : x ∈ l) :
    Calls Tryz.prog 27 #[.slice A n c, .int .i64 x] w fun e w' => w = w' ∧ e = .returned (.bool true) := by
  have hcap := h.cap
  have hmax := h.max
  have HLEN := Lib.hid h.len
  have HX := Lib.hid hx
  clear hx
  go_enter Tryz.func27, Tryz.ntmps27
  go_wp2
  go_loop [5] (fun y => ∃ k : Nat, k ≤ n ∧ y = .int .i64 k ∧ Hid (x ∉ l.take k)) (fun y => n - (intOf y).toNat)
  case atStart => exact ⟨0, Nat.zero_le _, rfl, Lib.hid (by simp)⟩
  case round =>
    obtain ⟨k, hk, rfl, HN⟩ := hrel
    by_cases hlt : k < n
    · obtain ⟨b, o, y, rfl, hbb, hy, c1⟩ := h.at_ hlt
      have HY := Lib.hid hy
      clear hy
      by_cases hxy : y = x
      · subst hxy
        go_wp2
        go_ret
        exact ⟨rfl, rfl⟩
      · have hyb : (y == x) = false := by simpa using hxy
        have HE : Hid (x ∉ l.take (k + 1)) := Lib.hid (by rw [List.take_add_one, HY.out]; simp; exact ⟨HN.out, fun e => hxy e.symm⟩)
        go_wp2
        go_round
        case rel => exact ⟨k + 1, by omega, by go_num, HE⟩
        case measure => (simp [intOf]; omega)
    · exfalso
      obtain rfl : k = n := by omega
      have := HN.out
      rw [List.take_of_length_le (by rw [HLEN.out]; exact Nat.le_refl _)] at this
      exact this HX.out

end Go.Proofs.YtgljncfijcamhaaGreatDoor
