/- Chapter 6, walks: the reference's CheckWind. -/
import Derived.Test.YtfnphhmcbdoojaaGreatDoorFew6
namespace Go.Proofs.YtfnphhmcbdoojaaGreatDoor
open Go.RowKit

set_option maxHeartbeats 8000000 in
theorem refWind_any (f : Int) (A A2 T V : Option Addr) (n c m c2 k0 ct wn cw : Nat) (wind : List Int) (G TE : Int) (w : World) (hv : Nums w w.heap.size V wn cw wind)
    (c1 : ∀ w', Below w.heap.size w w' → Calls Tryz.prog 14 #[.agg #[.int .i64 f, .slice A n c, .slice A2 m c2]] w' fun e w'' => Below w'.heap.size w' w'' ∧ e = .returned (.int .i64 G))
    (c2' : ∀ w', Below w.heap.size w w' → Calls Tryz.prog 64 #[.agg #[.int .i64 f, .slice A n c, .slice A2 m c2], .slice T k0 ct] w' fun e w'' => Below w'.heap.size w' w'' ∧ e = .returned (.int .i64 TE))
    (hs : G = 0 → n ≤ 60 ∧ m ≤ 60) :
    Calls Tryz.prog 36 #[.agg #[.int .i64 f, .slice A n c, .slice A2 m c2], .slice T k0 ct, .slice V wn cw] w fun e w' => Below w.heap.size w w' ∧ e = .returned (.int .i64 (windErr G TE (decide (wn = n * m)) (allIn 0 1000000 wind) (decide (1 ≤ k0)))) := by
  have C1 := Lib.hid c1
  have C2 := Lib.hid c2'
  have hcap := hv.cap
  have hmax := hv.max
  have HLEN := Lib.hid hv.len
  have H : Hid (∀ w', Below w.heap.size w w' → Nums w' w.heap.size V wn cw wind) := fun w' hb => hv.below hb (Nat.le_refl _) (Nat.le_refl _)
  clear c1 c2' hv
  unfold windErr
  by_cases hg : G = 0
  · obtain ⟨hn, hm⟩ := hs hg
    subst hg
    simp only [ne_eq, not_true_eq_false, if_false]
    by_cases ht : TE = 0
    · subst ht
      simp only [not_true_eq_false, if_false]
      obtain ⟨NM, hNM⟩ : ∃ NM, n * m = NM := ⟨_, rfl⟩
      have hle : NM ≤ 60 * 60 := by rw [← hNM]; exact Nat.mul_le_mul hn hm
      have hmul : IntKind.i64.wrap ((n : Int) * (m : Int)) = (NM : Int) := by
        have : (n : Int) * (m : Int) = (NM : Int) := by exact_mod_cast hNM
        rw [this]; exact IntWalk.i64_in _ (by omega)
      rw [hNM]
      clear hs hNM
      by_cases hl : wn = NM
      · have hl1 : ((wn : Int) != (NM : Int)) = false := by simp [hl]
        have hl2 : (wn != NM) = false := by simp [hl]
        rw [decide_eq_true hl]
        simp only [if_true]
        obtain ⟨bw, hbw⟩ : ∃ b, allIn 0 1000000 wind = b := ⟨_, rfl⟩
        rw [hbw]
        have HBW := Lib.hid hbw
        obtain ⟨E, hE⟩ : ∃ E, (if bw = true then (if decide (1 ≤ k0) = true then (0 : Int) else 27) else 2) = E := ⟨_, rfl⟩
        rw [hE]
        have HE := Lib.hid hE
        clear hl hbw hE
        go_enter Tryz.func36, Tryz.ntmps36
        go_wp2_with (first
        | (go_at_call 14; with_reducible refine (C1.out _ ?_).mono ?_; (focus (exact (by repeat (first | with_reducible exact Below.refl _ _ | with_reducible assumption | with_reducible refine Below.drew ?_ | with_reducible refine Below.drewN ?_ _ | with_reducible refine Below.alloc2 ?_ _ | with_reducible refine Below.alloc ?_ (by first | omega | (simp <;> omega)) _ | with_reducible refine Below.setCell ?_ (by first | omega | (simp <;> omega)) _ | with_reducible refine Below.step2 (by with_reducible assumption) ?_ | with_reducible refine Below.step (by with_reducible assumption) ?_ (by first | omega | (simp <;> omega)))))); rintro e w1 ⟨hb1, rfl⟩; have kg : Bk w1 w.heap.size 24 #[.int .i64 f, .slice A n c, .slice A2 m c2] := (by repeat (first | with_reducible assumption | with_reducible exact Bk.at_ (by first | (simp; done) | omega) | with_reducible refine Bk.alloc ?_ _ | with_reducible refine Bk.drew ?_ | with_reducible refine Bk.drewN ?_ _ | with_reducible refine Bk.step (by with_reducible assumption) ?_ (by first | omega | (simp <;> omega)))); obtain ⟨⟨g0, g1, g2⟩, -⟩ := kg.three; have oz1 := hb1.size; (try simp at oz1))
        | (go_at_call 64; with_reducible refine (C2.out _ ?_).mono ?_; (focus (exact (by repeat (first | with_reducible exact Below.refl _ _ | with_reducible assumption | with_reducible refine Below.drew ?_ | with_reducible refine Below.drewN ?_ _ | with_reducible refine Below.alloc2 ?_ _ | with_reducible refine Below.alloc ?_ (by first | omega | (simp <;> omega)) _ | with_reducible refine Below.setCell ?_ (by first | omega | (simp <;> omega)) _ | with_reducible refine Below.step2 (by with_reducible assumption) ?_ | with_reducible refine Below.step (by with_reducible assumption) ?_ (by first | omega | (simp <;> omega)))))); rintro e w1 ⟨hb1, rfl⟩; have kg : Bk w1 w.heap.size 24 #[.int .i64 f, .slice A n c, .slice A2 m c2] := (by repeat (first | with_reducible assumption | with_reducible exact Bk.at_ (by first | (simp; done) | omega) | with_reducible refine Bk.alloc ?_ _ | with_reducible refine Bk.drew ?_ | with_reducible refine Bk.drewN ?_ _ | with_reducible refine Bk.step (by with_reducible assumption) ?_ (by first | omega | (simp <;> omega)))); obtain ⟨⟨g0, g1, g2⟩, -⟩ := kg.three; have oz1 := hb1.size; (try simp at oz1)))
        go_loopw [9] (fun i wr => ∃ k : Nat, k ≤ wn ∧ i = .int .i64 k ∧ Hid (allIn 0 1000000 (wind.take k) = true) ∧ Below w.heap.size w wr) (fun i _ => wn - (intOf i).toNat)
        case atStart => exact ⟨0, Nat.zero_le _, rfl, Lib.hid rfl, (by repeat (first | with_reducible exact Below.refl _ _ | with_reducible assumption | with_reducible refine Below.drew ?_ | with_reducible refine Below.drewN ?_ _ | with_reducible refine Below.alloc2 ?_ _ | with_reducible refine Below.alloc ?_ (by first | omega | (simp <;> omega)) _ | with_reducible refine Below.setCell ?_ (by first | omega | (simp <;> omega)) _ | with_reducible refine Below.step2 (by with_reducible assumption) ?_ | with_reducible refine Below.step (by with_reducible assumption) ?_ (by first | omega | (simp <;> omega))))⟩
        case round =>
          obtain ⟨k, hk, rfl, hall, hb⟩ := hrel
          have HB := Lib.hid hb
          by_cases hlt : k < wn
          · obtain ⟨b, o, x, rfl, hbb, hx, hc⟩ := (H.out _ hb).at_ hlt
            have HX := Lib.hid hx
            obtain ⟨v, hv⟩ : ∃ v, inR 0 1000000 x = v := ⟨_, rfl⟩
            have HV := Lib.hid hv
            have HW := Lib.hid (within_b hv)
            clear hx hv hb
            cases v
            · go_wp2_with (go_at_call 46; with_reducible refine (HW.out _).mono ?_; rintro e w' ⟨rfl, rfl⟩)
              go_ret
              refine ⟨HB.out, ret_int ?_⟩
              rw [← HE.out, show bw = false by rw [← HBW.out]; exact allIn_not HX.out HV.out]
              rfl
            · go_wp2_with (go_at_call 46; with_reducible refine (HW.out _).mono ?_; rintro e w' ⟨rfl, rfl⟩)
              go_roundw
              case rel => exact ⟨k + 1, by omega, by go_num, Lib.hid (allIn_snoc HX.out hall.out HV.out), HB.out⟩
              case measure => simp [intOf]; omega
          · have h4 : bw = true := by
              rw [← HBW.out]
              have := hall.out
              rwa [List.take_of_length_le (by rw [HLEN.out]; omega)] at this
            subst h4
            clear hb
            by_cases hk0 : 1 ≤ k0
            · have hkb : ((k0 : Int) == 0) = false := by simp; omega
              have HEE : Hid (E = 0) := Lib.hid (by rw [← HE.out, decide_eq_true hk0]; rfl)
              clear hk0
              go_wp2
              go_ret
              exact ⟨HB.out, ret_int HEE.out.symm⟩
            · obtain rfl : k0 = 0 := by omega
              have HEE : Hid (E = 27) := Lib.hid (by rw [← HE.out]; rfl)
              clear hk0
              go_wp2
              go_ret
              exact ⟨HB.out, ret_int HEE.out.symm⟩
      · have hl1 : ((wn : Int) != (NM : Int)) = true := by simp; omega
        have hl2 : (wn != NM) = true := by simpa using hl
        rw [decide_eq_false hl]
        clear hl
        (
            go_enter Tryz.func36, Tryz.ntmps36
            go_wp2_with (first
        | (go_at_call 14; with_reducible refine (C1.out _ ?_).mono ?_; (focus (exact (by repeat (first | with_reducible exact Below.refl _ _ | with_reducible assumption | with_reducible refine Below.drew ?_ | with_reducible refine Below.drewN ?_ _ | with_reducible refine Below.alloc2 ?_ _ | with_reducible refine Below.alloc ?_ (by first | omega | (simp <;> omega)) _ | with_reducible refine Below.setCell ?_ (by first | omega | (simp <;> omega)) _ | with_reducible refine Below.step2 (by with_reducible assumption) ?_ | with_reducible refine Below.step (by with_reducible assumption) ?_ (by first | omega | (simp <;> omega)))))); rintro e w1 ⟨hb1, rfl⟩; have kg : Bk w1 w.heap.size 24 #[.int .i64 f, .slice A n c, .slice A2 m c2] := (by repeat (first | with_reducible assumption | with_reducible exact Bk.at_ (by first | (simp; done) | omega) | with_reducible refine Bk.alloc ?_ _ | with_reducible refine Bk.drew ?_ | with_reducible refine Bk.drewN ?_ _ | with_reducible refine Bk.step (by with_reducible assumption) ?_ (by first | omega | (simp <;> omega)))); obtain ⟨⟨g0, g1, g2⟩, -⟩ := kg.three; have oz1 := hb1.size; (try simp at oz1))
        | (go_at_call 64; with_reducible refine (C2.out _ ?_).mono ?_; (focus (exact (by repeat (first | with_reducible exact Below.refl _ _ | with_reducible assumption | with_reducible refine Below.drew ?_ | with_reducible refine Below.drewN ?_ _ | with_reducible refine Below.alloc2 ?_ _ | with_reducible refine Below.alloc ?_ (by first | omega | (simp <;> omega)) _ | with_reducible refine Below.setCell ?_ (by first | omega | (simp <;> omega)) _ | with_reducible refine Below.step2 (by with_reducible assumption) ?_ | with_reducible refine Below.step (by with_reducible assumption) ?_ (by first | omega | (simp <;> omega)))))); rintro e w1 ⟨hb1, rfl⟩; have kg : Bk w1 w.heap.size 24 #[.int .i64 f, .slice A n c, .slice A2 m c2] := (by repeat (first | with_reducible assumption | with_reducible exact Bk.at_ (by first | (simp; done) | omega) | with_reducible refine Bk.alloc ?_ _ | with_reducible refine Bk.drew ?_ | with_reducible refine Bk.drewN ?_ _ | with_reducible refine Bk.step (by with_reducible assumption) ?_ (by first | omega | (simp <;> omega)))); obtain ⟨⟨g0, g1, g2⟩, -⟩ := kg.three; have oz1 := hb1.size; (try simp at oz1)))
            go_ret
            exact ⟨(by repeat (first | with_reducible exact Below.refl _ _ | with_reducible assumption | with_reducible refine Below.drew ?_ | with_reducible refine Below.drewN ?_ _ | with_reducible refine Below.alloc2 ?_ _ | with_reducible refine Below.alloc ?_ (by first | omega | (simp <;> omega)) _ | with_reducible refine Below.setCell ?_ (by first | omega | (simp <;> omega)) _ | with_reducible refine Below.step2 (by with_reducible assumption) ?_ | with_reducible refine Below.step (by with_reducible assumption) ?_ (by first | omega | (simp <;> omega)))), rfl⟩)
    · have htb : (TE != 0) = true := by simpa using ht
      simp only [ht, not_false_eq_true, if_true]
      clear hs
      (
          go_enter Tryz.func36, Tryz.ntmps36
          go_wp2_with (first
      | (go_at_call 14; with_reducible refine (C1.out _ ?_).mono ?_; (focus (exact (by repeat (first | with_reducible exact Below.refl _ _ | with_reducible assumption | with_reducible refine Below.drew ?_ | with_reducible refine Below.drewN ?_ _ | with_reducible refine Below.alloc2 ?_ _ | with_reducible refine Below.alloc ?_ (by first | omega | (simp <;> omega)) _ | with_reducible refine Below.setCell ?_ (by first | omega | (simp <;> omega)) _ | with_reducible refine Below.step2 (by with_reducible assumption) ?_ | with_reducible refine Below.step (by with_reducible assumption) ?_ (by first | omega | (simp <;> omega)))))); rintro e w1 ⟨hb1, rfl⟩; have kg : Bk w1 w.heap.size 24 #[.int .i64 f, .slice A n c, .slice A2 m c2] := (by repeat (first | with_reducible assumption | with_reducible exact Bk.at_ (by first | (simp; done) | omega) | with_reducible refine Bk.alloc ?_ _ | with_reducible refine Bk.drew ?_ | with_reducible refine Bk.drewN ?_ _ | with_reducible refine Bk.step (by with_reducible assumption) ?_ (by first | omega | (simp <;> omega)))); obtain ⟨⟨g0, g1, g2⟩, -⟩ := kg.three; have oz1 := hb1.size; (try simp at oz1))
      | (go_at_call 64; with_reducible refine (C2.out _ ?_).mono ?_; (focus (exact (by repeat (first | with_reducible exact Below.refl _ _ | with_reducible assumption | with_reducible refine Below.drew ?_ | with_reducible refine Below.drewN ?_ _ | with_reducible refine Below.alloc2 ?_ _ | with_reducible refine Below.alloc ?_ (by first | omega | (simp <;> omega)) _ | with_reducible refine Below.setCell ?_ (by first | omega | (simp <;> omega)) _ | with_reducible refine Below.step2 (by with_reducible assumption) ?_ | with_reducible refine Below.step (by with_reducible assumption) ?_ (by first | omega | (simp <;> omega)))))); rintro e w1 ⟨hb1, rfl⟩; have kg : Bk w1 w.heap.size 24 #[.int .i64 f, .slice A n c, .slice A2 m c2] := (by repeat (first | with_reducible assumption | with_reducible exact Bk.at_ (by first | (simp; done) | omega) | with_reducible refine Bk.alloc ?_ _ | with_reducible refine Bk.drew ?_ | with_reducible refine Bk.drewN ?_ _ | with_reducible refine Bk.step (by with_reducible assumption) ?_ (by first | omega | (simp <;> omega)))); obtain ⟨⟨g0, g1, g2⟩, -⟩ := kg.three; have oz1 := hb1.size; (try simp at oz1)))
          go_ret
          exact ⟨(by repeat (first | with_reducible exact Below.refl _ _ | with_reducible assumption | with_reducible refine Below.drew ?_ | with_reducible refine Below.drewN ?_ _ | with_reducible refine Below.alloc2 ?_ _ | with_reducible refine Below.alloc ?_ (by first | omega | (simp <;> omega)) _ | with_reducible refine Below.setCell ?_ (by first | omega | (simp <;> omega)) _ | with_reducible refine Below.step2 (by with_reducible assumption) ?_ | with_reducible refine Below.step (by with_reducible assumption) ?_ (by first | omega | (simp <;> omega)))), rfl⟩)
  · have hgb : (G != 0) = true := by simpa using hg
    simp only [ne_eq, hg, not_false_eq_true, if_true]
    clear hs
    (
        go_enter Tryz.func36, Tryz.ntmps36
        go_wp2_with (first
    | (go_at_call 14; with_reducible refine (C1.out _ ?_).mono ?_; (focus (exact (by repeat (first | with_reducible exact Below.refl _ _ | with_reducible assumption | with_reducible refine Below.drew ?_ | with_reducible refine Below.drewN ?_ _ | with_reducible refine Below.alloc2 ?_ _ | with_reducible refine Below.alloc ?_ (by first | omega | (simp <;> omega)) _ | with_reducible refine Below.setCell ?_ (by first | omega | (simp <;> omega)) _ | with_reducible refine Below.step2 (by with_reducible assumption) ?_ | with_reducible refine Below.step (by with_reducible assumption) ?_ (by first | omega | (simp <;> omega)))))); rintro e w1 ⟨hb1, rfl⟩; have kg : Bk w1 w.heap.size 24 #[.int .i64 f, .slice A n c, .slice A2 m c2] := (by repeat (first | with_reducible assumption | with_reducible exact Bk.at_ (by first | (simp; done) | omega) | with_reducible refine Bk.alloc ?_ _ | with_reducible refine Bk.drew ?_ | with_reducible refine Bk.drewN ?_ _ | with_reducible refine Bk.step (by with_reducible assumption) ?_ (by first | omega | (simp <;> omega)))); obtain ⟨⟨g0, g1, g2⟩, -⟩ := kg.three; have oz1 := hb1.size; (try simp at oz1))
    | (go_at_call 64; with_reducible refine (C2.out _ ?_).mono ?_; (focus (exact (by repeat (first | with_reducible exact Below.refl _ _ | with_reducible assumption | with_reducible refine Below.drew ?_ | with_reducible refine Below.drewN ?_ _ | with_reducible refine Below.alloc2 ?_ _ | with_reducible refine Below.alloc ?_ (by first | omega | (simp <;> omega)) _ | with_reducible refine Below.setCell ?_ (by first | omega | (simp <;> omega)) _ | with_reducible refine Below.step2 (by with_reducible assumption) ?_ | with_reducible refine Below.step (by with_reducible assumption) ?_ (by first | omega | (simp <;> omega)))))); rintro e w1 ⟨hb1, rfl⟩; have kg : Bk w1 w.heap.size 24 #[.int .i64 f, .slice A n c, .slice A2 m c2] := (by repeat (first | with_reducible assumption | with_reducible exact Bk.at_ (by first | (simp; done) | omega) | with_reducible refine Bk.alloc ?_ _ | with_reducible refine Bk.drew ?_ | with_reducible refine Bk.drewN ?_ _ | with_reducible refine Bk.step (by with_reducible assumption) ?_ (by first | omega | (simp <;> omega)))); obtain ⟨⟨g0, g1, g2⟩, -⟩ := kg.three; have oz1 := hb1.size; (try simp at oz1)))
        go_ret
        exact ⟨(by repeat (first | with_reducible exact Below.refl _ _ | with_reducible assumption | with_reducible refine Below.drew ?_ | with_reducible refine Below.drewN ?_ _ | with_reducible refine Below.alloc2 ?_ _ | with_reducible refine Below.alloc ?_ (by first | omega | (simp <;> omega)) _ | with_reducible refine Below.setCell ?_ (by first | omega | (simp <;> omega)) _ | with_reducible refine Below.step2 (by with_reducible assumption) ?_ | with_reducible refine Below.step (by with_reducible assumption) ?_ (by first | omega | (simp <;> omega)))), rfl⟩)

end Go.Proofs.YtfnphhmcbdoojaaGreatDoor
