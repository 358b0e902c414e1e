/- Chapter 6, walks: the reference's CheckGround. -/
import Derived.Test.YtgljncfijcamhaaGreatDoorGround6
namespace Go.Proofs.YtgljncfijcamhaaGreatDoor
open Go.RowKit

set_option maxHeartbeats 8000000 in
theorem refCheckGround_any (A : Option Addr) (n c : Nat) (l : List Gr) (w : World) (h : Grs w w.heap.size A n c l) :
    Calls Tryz.prog 57 #[.slice A n c] w fun e w' => Below w.heap.size w w' ∧ e = .returned (.int .i64 (groundErr l)) := by
  have hcap := h.cap
  have hmax := h.max
  have HLEN := Lib.hid h.len
  have H : Hid (∀ w', Below w.heap.size w w' → Grs w' w.heap.size A n c l) := fun w' hb => h.below hb (Nat.le_refl _) (Nat.le_refl _)
  unfold groundErr
  rw [HLEN.out]
  obtain ⟨b0, e0⟩ : ∃ b, inR 1 20 n = b := ⟨_, rfl⟩
  rw [e0]
  have E0 := Lib.hid (within_b e0)
  clear e0 h
  cases b0
  · go_enter Tryz.func57, Tryz.ntmps57
    go_wp2_with (go_at_call 24; with_reducible refine (E0.out _).mono ?_; rintro e w' ⟨rfl, rfl⟩)
    go_ret
    exact ⟨(by repeat (first | with_reducible exact Below.refl _ _ | with_reducible assumption | with_reducible refine Below.drew ?_ | with_reducible refine Below.drewN ?_ _ | with_reducible refine Below.alloc2 ?_ _ | with_reducible refine Below.alloc ?_ (by first | omega | (simp <;> omega)) _ | with_reducible refine Below.setCell ?_ (by first | omega | (simp <;> omega)) _ | with_reducible refine Below.step2 (by with_reducible assumption) ?_ | with_reducible refine Below.step (by with_reducible assumption) ?_ (by first | omega | (simp <;> omega)))), rfl⟩
  · simp only [if_true]
    obtain ⟨G, hG⟩ : ∃ G, grFrom none l = G := ⟨_, rfl⟩
    rw [hG]
    have HG := Lib.hid hG
    clear hG
    go_enter Tryz.func57, Tryz.ntmps57
    go_wp2_with (go_at_call 24; with_reducible refine (E0.out _).mono ?_; rintro e w' ⟨rfl, rfl⟩)
    go_loopw [3, 4] (fun i _ wr => ∃ k : Nat, k ≤ n ∧ i = .int .i64 k ∧ Hid (grFrom none l = grFrom (pvAt l k) (l.drop k)) ∧ Below w.heap.size w wr) (fun i _ _ => n - (intOf i).toNat)
    case atStart => exact ⟨0, Nat.zero_le _, rfl, Lib.hid rfl, (by repeat (first | with_reducible exact Below.refl _ _ | with_reducible assumption | with_reducible refine Below.drew ?_ | with_reducible refine Below.drewN ?_ _ | with_reducible refine Below.alloc2 ?_ _ | with_reducible refine Below.alloc ?_ (by first | omega | (simp <;> omega)) _ | with_reducible refine Below.setCell ?_ (by first | omega | (simp <;> omega)) _ | with_reducible refine Below.step2 (by with_reducible assumption) ?_ | with_reducible refine Below.step (by with_reducible assumption) ?_ (by first | omega | (simp <;> omega))))⟩
    case round =>
      obtain ⟨k, hk, rfl, HV, hb⟩ := hrel
      by_cases hlt : k < n
      · obtain ⟨b, o, ⟨xa, xb, xc, xd⟩, rfl, hbb, hx, c0, c1, c2, c3⟩ := (H.out _ hb).at_ hlt
        have HX := Lib.hid hx
        have HB := Lib.hid hb
        have ow := hb.size
        have ob : b < wr.heap.size := by omega
        clear hx
        dsimp only at c0 c1 c2 c3
        obtain ⟨b1, e1⟩ : ∃ v, inR (-1000000) 1000000 xa = v := ⟨_, rfl⟩
        obtain ⟨b2, e2⟩ : ∃ v, inR (-1000000) 1000000 xb = v := ⟨_, rfl⟩
        obtain ⟨b3, e3⟩ : ∃ v, inR (-1000000) 1000000 xc = v := ⟨_, rfl⟩
        obtain ⟨b4, e4⟩ : ∃ v, inR 1 1000000 xd = v := ⟨_, rfl⟩
        have F1 := Lib.hid e1
        have F2 := Lib.hid e2
        have F3 := Lib.hid e3
        have F4 := Lib.hid e4
        have E1 := Lib.hid (within_b e1)
        have E2 := Lib.hid (within_b e2)
        have E3 := Lib.hid (within_b e3)
        have E4 := Lib.hid (within_b e4)
        clear e1 e2 e3 e4
        cases b1
        · go_wp2_with (first
        | (go_at_call 24; with_reducible refine (E1.out _).mono ?_; rintro e w' ⟨rfl, rfl⟩)
        | (go_at_call 24; with_reducible refine (E2.out _).mono ?_; rintro e w' ⟨rfl, rfl⟩)
        | (go_at_call 24; with_reducible refine (E3.out _).mono ?_; rintro e w' ⟨rfl, rfl⟩)
        | (go_at_call 24; with_reducible refine (E4.out _).mono ?_; rintro e w' ⟨rfl, rfl⟩))
          go_ret
          have hb0 := HB.out
          refine ⟨(by repeat (first | with_reducible exact Below.refl _ _ | with_reducible assumption | with_reducible refine Below.drew ?_ | with_reducible refine Below.drewN ?_ _ | with_reducible refine Below.alloc2 ?_ _ | with_reducible refine Below.alloc ?_ (by first | omega | (simp <;> omega)) _ | with_reducible refine Below.setCell ?_ (by first | omega | (simp <;> omega)) _ | with_reducible refine Below.step2 (by with_reducible assumption) ?_ | with_reducible refine Below.step (by with_reducible assumption) ?_ (by first | omega | (simp <;> omega)))), ret_int ?_⟩
          rw [← HG.out, grFrom_bad HX.out HV.out (by simp [ok3, F1.out, F2.out, F3.out, F4.out])]
        cases b2
        · go_wp2_with (first
        | (go_at_call 24; with_reducible refine (E1.out _).mono ?_; rintro e w' ⟨rfl, rfl⟩)
        | (go_at_call 24; with_reducible refine (E2.out _).mono ?_; rintro e w' ⟨rfl, rfl⟩)
        | (go_at_call 24; with_reducible refine (E3.out _).mono ?_; rintro e w' ⟨rfl, rfl⟩)
        | (go_at_call 24; with_reducible refine (E4.out _).mono ?_; rintro e w' ⟨rfl, rfl⟩))
          go_ret
          have hb0 := HB.out
          refine ⟨(by repeat (first | with_reducible exact Below.refl _ _ | with_reducible assumption | with_reducible refine Below.drew ?_ | with_reducible refine Below.drewN ?_ _ | with_reducible refine Below.alloc2 ?_ _ | with_reducible refine Below.alloc ?_ (by first | omega | (simp <;> omega)) _ | with_reducible refine Below.setCell ?_ (by first | omega | (simp <;> omega)) _ | with_reducible refine Below.step2 (by with_reducible assumption) ?_ | with_reducible refine Below.step (by with_reducible assumption) ?_ (by first | omega | (simp <;> omega)))), ret_int ?_⟩
          rw [← HG.out, grFrom_bad HX.out HV.out (by simp [ok3, F1.out, F2.out, F3.out, F4.out])]
        cases b3
        · go_wp2_with (first
        | (go_at_call 24; with_reducible refine (E1.out _).mono ?_; rintro e w' ⟨rfl, rfl⟩)
        | (go_at_call 24; with_reducible refine (E2.out _).mono ?_; rintro e w' ⟨rfl, rfl⟩)
        | (go_at_call 24; with_reducible refine (E3.out _).mono ?_; rintro e w' ⟨rfl, rfl⟩)
        | (go_at_call 24; with_reducible refine (E4.out _).mono ?_; rintro e w' ⟨rfl, rfl⟩))
          go_ret
          have hb0 := HB.out
          refine ⟨(by repeat (first | with_reducible exact Below.refl _ _ | with_reducible assumption | with_reducible refine Below.drew ?_ | with_reducible refine Below.drewN ?_ _ | with_reducible refine Below.alloc2 ?_ _ | with_reducible refine Below.alloc ?_ (by first | omega | (simp <;> omega)) _ | with_reducible refine Below.setCell ?_ (by first | omega | (simp <;> omega)) _ | with_reducible refine Below.step2 (by with_reducible assumption) ?_ | with_reducible refine Below.step (by with_reducible assumption) ?_ (by first | omega | (simp <;> omega)))), ret_int ?_⟩
          rw [← HG.out, grFrom_bad HX.out HV.out (by simp [ok3, F1.out, F2.out, F3.out, F4.out])]
        cases b4
        · go_wp2_with (first
        | (go_at_call 24; with_reducible refine (E1.out _).mono ?_; rintro e w' ⟨rfl, rfl⟩)
        | (go_at_call 24; with_reducible refine (E2.out _).mono ?_; rintro e w' ⟨rfl, rfl⟩)
        | (go_at_call 24; with_reducible refine (E3.out _).mono ?_; rintro e w' ⟨rfl, rfl⟩)
        | (go_at_call 24; with_reducible refine (E4.out _).mono ?_; rintro e w' ⟨rfl, rfl⟩))
          go_ret
          have hb0 := HB.out
          refine ⟨(by repeat (first | with_reducible exact Below.refl _ _ | with_reducible assumption | with_reducible refine Below.drew ?_ | with_reducible refine Below.drewN ?_ _ | with_reducible refine Below.alloc2 ?_ _ | with_reducible refine Below.alloc ?_ (by first | omega | (simp <;> omega)) _ | with_reducible refine Below.setCell ?_ (by first | omega | (simp <;> omega)) _ | with_reducible refine Below.step2 (by with_reducible assumption) ?_ | with_reducible refine Below.step (by with_reducible assumption) ?_ (by first | omega | (simp <;> omega)))), ret_int ?_⟩
          rw [← HG.out, grFrom_bad HX.out HV.out (by simp [ok3, F1.out, F2.out, F3.out, F4.out])]
        by_cases hab : xa < xb
        · have hab1 : decide (xb ≤ xa) = false := decide_eq_false (by omega)
          by_cases hk0 : k = 0
          · have hz0 : decide ((0 : Int) < (k : Int)) = false := decide_eq_false (by omega)
            have hz : ¬ (0 : Int) < (k : Int) := by omega
            have hz1 : ¬ 0 < k := by omega
            have hz2 : decide (0 < k) = false := decide_eq_false hz1
            have HK := Lib.hid hk0
            clear hk0
            (
                        go_wp2_with (first
            | (go_at_call 24; with_reducible refine (E1.out _).mono ?_; rintro e w' ⟨rfl, rfl⟩)
            | (go_at_call 24; with_reducible refine (E2.out _).mono ?_; rintro e w' ⟨rfl, rfl⟩)
            | (go_at_call 24; with_reducible refine (E3.out _).mono ?_; rintro e w' ⟨rfl, rfl⟩)
            | (go_at_call 24; with_reducible refine (E4.out _).mono ?_; rintro e w' ⟨rfl, rfl⟩))
                        go_quiet (fail)
                        go_wp2
                        go_roundw
                        case rel =>
                          have hb0 := HB.out
                          exact ⟨k + 1, by omega, by go_num, Lib.hid (grFrom_next HX.out HV.out (by simp [ok3, F1.out, F2.out, F3.out, F4.out]) (okB_yes hab (by rw [HK.out]; intro p hp; cases hp))), (by repeat (first | with_reducible exact Below.refl _ _ | with_reducible assumption | with_reducible refine Below.drew ?_ | with_reducible refine Below.drewN ?_ _ | with_reducible refine Below.alloc2 ?_ _ | with_reducible refine Below.alloc ?_ (by first | omega | (simp <;> omega)) _ | with_reducible refine Below.setCell ?_ (by first | omega | (simp <;> omega)) _ | with_reducible refine Below.step2 (by with_reducible assumption) ?_ | with_reducible refine Below.step (by with_reducible assumption) ?_ (by first | omega | (simp <;> omega))))⟩
                        case measure => (simp [intOf]; omega))
          · obtain ⟨j, hj⟩ : ∃ j, k = j + 1 := ⟨k - 1, by omega⟩
            obtain ⟨b', o', ⟨ya, yb, yc, yd⟩, e, -, hy, -, d1, -, -⟩ := (H.out _ hb).at_ (show j < n by omega)
            obtain ⟨rfl, rfl⟩ : b = b' ∧ o = o' := by simpa using e
            dsimp only at d1
            have HY := Lib.hid hy
            have hw1 : IntKind.i64.wrap ((k : Int) - 1) = (j : Int) := by rw [IntWalk.i64_in _ (by omega)]; omega
            have z0 : (0 : Int) < (k : Int) := by omega
            have z01 : 0 < k := by omega
            have z02 : decide (0 < k) = true := decide_eq_true z01
            have z00 : decide ((0 : Int) < (k : Int)) = true := decide_eq_true z0
            have z1 : (0 : Int) ≤ (j : Int) := by omega
            have z2 : (j : Int) < (n : Int) := by omega
            have HK := Lib.hid hj
            clear e hy hk0 hj
            by_cases hxy : xa = yb
            · obtain rfl : xa = yb := hxy
              (
                          go_wp2_with (first
              | (go_at_call 24; with_reducible refine (E1.out _).mono ?_; rintro e w' ⟨rfl, rfl⟩)
              | (go_at_call 24; with_reducible refine (E2.out _).mono ?_; rintro e w' ⟨rfl, rfl⟩)
              | (go_at_call 24; with_reducible refine (E3.out _).mono ?_; rintro e w' ⟨rfl, rfl⟩)
              | (go_at_call 24; with_reducible refine (E4.out _).mono ?_; rintro e w' ⟨rfl, rfl⟩))
                          go_quiet (fail)
                          go_wp2
                          go_roundw
                          case rel =>
                            have hb0 := HB.out
                            exact ⟨k + 1, by omega, by go_num, Lib.hid (grFrom_next HX.out HV.out (by simp [ok3, F1.out, F2.out, F3.out, F4.out]) (okB_yes hab (by rw [pvAt_succ HK.out HY.out]; intro p hp; cases hp; rfl))), (by repeat (first | with_reducible exact Below.refl _ _ | with_reducible assumption | with_reducible refine Below.drew ?_ | with_reducible refine Below.drewN ?_ _ | with_reducible refine Below.alloc2 ?_ _ | with_reducible refine Below.alloc ?_ (by first | omega | (simp <;> omega)) _ | with_reducible refine Below.setCell ?_ (by first | omega | (simp <;> omega)) _ | with_reducible refine Below.step2 (by with_reducible assumption) ?_ | with_reducible refine Below.step (by with_reducible assumption) ?_ (by first | omega | (simp <;> omega))))⟩
                          case measure => (simp [intOf]; omega))
            · have hxb : (xa != yb) = true := by simpa using hxy
              (
                          go_wp2_with (first
              | (go_at_call 24; with_reducible refine (E1.out _).mono ?_; rintro e w' ⟨rfl, rfl⟩)
              | (go_at_call 24; with_reducible refine (E2.out _).mono ?_; rintro e w' ⟨rfl, rfl⟩)
              | (go_at_call 24; with_reducible refine (E3.out _).mono ?_; rintro e w' ⟨rfl, rfl⟩)
              | (go_at_call 24; with_reducible refine (E4.out _).mono ?_; rintro e w' ⟨rfl, rfl⟩))
                          go_quiet (fail)
                          go_wp2
                          go_ret
                          have hb0 := HB.out
                          refine ⟨(by repeat (first | with_reducible exact Below.refl _ _ | with_reducible assumption | with_reducible refine Below.drew ?_ | with_reducible refine Below.drewN ?_ _ | with_reducible refine Below.alloc2 ?_ _ | with_reducible refine Below.alloc ?_ (by first | omega | (simp <;> omega)) _ | with_reducible refine Below.setCell ?_ (by first | omega | (simp <;> omega)) _ | with_reducible refine Below.step2 (by with_reducible assumption) ?_ | with_reducible refine Below.step (by with_reducible assumption) ?_ (by first | omega | (simp <;> omega)))), ret_int ?_⟩
                          rw [← HG.out, grFrom_order HX.out HV.out (by simp [ok3, F1.out, F2.out, F3.out, F4.out]) (by rw [pvAt_succ HK.out HY.out]; exact okB_gap hxy)])
        · have hab1 : decide (xb ≤ xa) = true := decide_eq_true (by omega)
          (
                      go_wp2_with (first
          | (go_at_call 24; with_reducible refine (E1.out _).mono ?_; rintro e w' ⟨rfl, rfl⟩)
          | (go_at_call 24; with_reducible refine (E2.out _).mono ?_; rintro e w' ⟨rfl, rfl⟩)
          | (go_at_call 24; with_reducible refine (E3.out _).mono ?_; rintro e w' ⟨rfl, rfl⟩)
          | (go_at_call 24; with_reducible refine (E4.out _).mono ?_; rintro e w' ⟨rfl, rfl⟩))
                      go_quiet (fail)
                      go_wp2
                      go_ret
                      have hb0 := HB.out
                      refine ⟨(by repeat (first | with_reducible exact Below.refl _ _ | with_reducible assumption | with_reducible refine Below.drew ?_ | with_reducible refine Below.drewN ?_ _ | with_reducible refine Below.alloc2 ?_ _ | with_reducible refine Below.alloc ?_ (by first | omega | (simp <;> omega)) _ | with_reducible refine Below.setCell ?_ (by first | omega | (simp <;> omega)) _ | with_reducible refine Below.step2 (by with_reducible assumption) ?_ | with_reducible refine Below.step (by with_reducible assumption) ?_ (by first | omega | (simp <;> omega)))), ret_int ?_⟩
                      rw [← HG.out, grFrom_order HX.out HV.out (by simp [ok3, F1.out, F2.out, F3.out, F4.out]) (okB_no (show ¬ xa < xb by omega))])
      · have HB := Lib.hid hb
        clear hb
        go_wp2
        go_ret
        have hb0 := HB.out
        refine ⟨(by repeat (first | with_reducible exact Below.refl _ _ | with_reducible assumption | with_reducible refine Below.drew ?_ | with_reducible refine Below.drewN ?_ _ | with_reducible refine Below.alloc2 ?_ _ | with_reducible refine Below.alloc ?_ (by first | omega | (simp <;> omega)) _ | with_reducible refine Below.setCell ?_ (by first | omega | (simp <;> omega)) _ | with_reducible refine Below.step2 (by with_reducible assumption) ?_ | with_reducible refine Below.step (by with_reducible assumption) ?_ (by first | omega | (simp <;> omega)))), ret_int ?_⟩
        rw [← HG.out, grFrom_end (by rw [HLEN.out]; omega) HV.out]

end Go.Proofs.YtgljncfijcamhaaGreatDoor
