/- Chapter 6, walks: the reference's CheckGrid. -/
import Derived.Test.YtgljncfijcamhaaGreatDoorRule6
namespace Go.Proofs.YtgljncfijcamhaaGreatDoor
open Go.RowKit

theorem allIn_snoc {lo hi : Int} {l : List Int} {k : Nat} {x : Int} (hx : l[k]? = some x) (h : allIn lo hi (l.take k) = true) (h2 : inR lo hi x = true) : allIn lo hi (l.take (k + 1)) = true := by
  obtain ⟨hk, rfl⟩ := List.getElem?_eq_some_iff.1 hx
  unfold allIn at h ⊢
  rw [List.take_succ_eq_append_getElem hk, List.all_append, h]
  simpa [inR] using h2
theorem allIn_not {lo hi : Int} {l : List Int} {k : Nat} {x : Int} (hx : l[k]? = some x) (h2 : inR lo hi x = false) : allIn lo hi l = false := by
  unfold allIn
  rw [List.all_eq_false]
  exact ⟨x, List.mem_of_getElem? hx, by simp only [inR] at h2; rw [h2]; simp⟩
theorem gErr1 (b2 b3 b4 b5 b6 b7 : Bool) : gErr false b2 b3 b4 b5 b6 b7 = 2 := rfl
theorem gErr2 (b3 b4 b5 b6 b7 : Bool) : gErr true false b3 b4 b5 b6 b7 = 11 := rfl
theorem gErr3 (b4 b5 b6 b7 : Bool) : gErr true true false b4 b5 b6 b7 = 11 := rfl
theorem gErr4 (b5 b6 b7 : Bool) : gErr true true true false b5 b6 b7 = 2 := rfl
theorem gErr5 (b6 b7 : Bool) : gErr true true true true false b6 b7 = 2 := rfl

set_option maxHeartbeats 4000000 in
theorem refCheckGrid_any (f : Int) (A A2 : Option Addr) (n c n2 c2 : Nat) (a lv : List Int) (w : World) (ha : Nums w w.heap.size A n c a) (hl : Nums w w.heap.size A2 n2 c2 lv) : Calls Tryz.prog 43 #[.agg #[.int .i64 f, .slice A n c, .slice A2 n2 c2]] w fun e w' => Below w.heap.size w w' ∧ e = .returned (.int .i64 (gridErr f a lv)) := by
  have HLA := Lib.hid ha.len
  have HLB := Lib.hid hl.len
  have hcapA := ha.cap
  have hcapB := hl.cap
  have hmaxA := ha.max
  have hmaxB := hl.max
  have HA : Hid (∀ w', Below w.heap.size w w' → Nums w' w'.heap.size A n c a) := fun w' hb => ha.below hb (Nat.le_refl _) hb.size
  have HB : Hid (∀ w', Below w.heap.size w w' → Nums w' w'.heap.size A2 n2 c2 lv) := fun w' hb => hl.below hb (Nat.le_refl _) hb.size
  have HA0 := Lib.hid ha
  have HB0 := Lib.hid hl
  unfold gridErr
  rw [HLA.out, HLB.out]
  obtain ⟨b1, e1⟩ : ∃ b, inR 0 39 f = b := ⟨_, rfl⟩
  obtain ⟨b2, e2⟩ : ∃ b, inR 1 60 n = b := ⟨_, rfl⟩
  obtain ⟨b3, e3⟩ : ∃ b, inR 1 30 n2 = b := ⟨_, rfl⟩
  obtain ⟨b4, e4⟩ : ∃ b, allIn (-1000000) 1000000 a = b := ⟨_, rfl⟩
  obtain ⟨b5, e5⟩ : ∃ b, allIn 1 1000000 lv = b := ⟨_, rfl⟩
  obtain ⟨b6, e6⟩ : ∃ b, rise a = b := ⟨_, rfl⟩
  obtain ⟨b7, e7⟩ : ∃ b, rise lv = b := ⟨_, rfl⟩
  have E1 := Lib.hid (within_b e1)
  have E2 := Lib.hid (within_b e2)
  have E3 := Lib.hid (within_b e3)
  have E4 := Lib.hid e4
  have E5 := Lib.hid e5
  have E6 : Hid (∀ w', Below w.heap.size w w' → Calls Tryz.prog 53 #[.slice A n c] w' fun e w'' => Below w'.heap.size w' w'' ∧ e = .returned (.bool b6)) := Lib.hid fun w' hb => by
    rw [← e6]; exact refAscends_any A n c a w' (HA.out w' hb)
  have E7 : Hid (∀ w', Below w.heap.size w w' → Calls Tryz.prog 53 #[.slice A2 n2 c2] w' fun e w'' => Below w'.heap.size w' w'' ∧ e = .returned (.bool b7)) := Lib.hid fun w' hb => by
    rw [← e7]; exact refAscends_any A2 n2 c2 lv w' (HB.out w' hb)
  rw [e1, e2, e3, e4, e5, e6, e7]
  clear e1 e2 e3 e4 e5 e6 e7 ha hl HA HB
  cases b1
  · go_enter Tryz.func43, Tryz.ntmps43
    go_wp2_with (first
        | (go_at_call 24; with_reducible refine (E1.out _).mono ?_; rintro e w' ⟨rfl, rfl⟩)
        | (go_at_call 24; with_reducible refine (E2.out _).mono ?_; rintro e w' ⟨rfl, rfl⟩)
        | (go_at_call 24; with_reducible refine (E3.out _).mono ?_; rintro e w' ⟨rfl, rfl⟩))
    go_ret
    exact ⟨(by repeat (first | with_reducible exact Below.refl _ _ | with_reducible assumption | with_reducible refine Below.drew ?_ | with_reducible refine Below.drewN ?_ _ | with_reducible refine Below.alloc2 ?_ _ | with_reducible refine Below.alloc ?_ (by first | omega | (simp <;> omega)) _ | with_reducible refine Below.setCell ?_ (by first | omega | (simp <;> omega)) _ | with_reducible refine Below.step2 (by with_reducible assumption) ?_ | with_reducible refine Below.step (by with_reducible assumption) ?_ (by first | omega | (simp <;> omega)))), rfl⟩
  cases b2
  · go_enter Tryz.func43, Tryz.ntmps43
    go_wp2_with (first
        | (go_at_call 24; with_reducible refine (E1.out _).mono ?_; rintro e w' ⟨rfl, rfl⟩)
        | (go_at_call 24; with_reducible refine (E2.out _).mono ?_; rintro e w' ⟨rfl, rfl⟩)
        | (go_at_call 24; with_reducible refine (E3.out _).mono ?_; rintro e w' ⟨rfl, rfl⟩))
    go_ret
    exact ⟨(by repeat (first | with_reducible exact Below.refl _ _ | with_reducible assumption | with_reducible refine Below.drew ?_ | with_reducible refine Below.drewN ?_ _ | with_reducible refine Below.alloc2 ?_ _ | with_reducible refine Below.alloc ?_ (by first | omega | (simp <;> omega)) _ | with_reducible refine Below.setCell ?_ (by first | omega | (simp <;> omega)) _ | with_reducible refine Below.step2 (by with_reducible assumption) ?_ | with_reducible refine Below.step (by with_reducible assumption) ?_ (by first | omega | (simp <;> omega)))), rfl⟩
  cases b3
  · go_enter Tryz.func43, Tryz.ntmps43
    go_wp2_with (first
        | (go_at_call 24; with_reducible refine (E1.out _).mono ?_; rintro e w' ⟨rfl, rfl⟩)
        | (go_at_call 24; with_reducible refine (E2.out _).mono ?_; rintro e w' ⟨rfl, rfl⟩)
        | (go_at_call 24; with_reducible refine (E3.out _).mono ?_; rintro e w' ⟨rfl, rfl⟩))
    go_ret
    exact ⟨(by repeat (first | with_reducible exact Below.refl _ _ | with_reducible assumption | with_reducible refine Below.drew ?_ | with_reducible refine Below.drewN ?_ _ | with_reducible refine Below.alloc2 ?_ _ | with_reducible refine Below.alloc ?_ (by first | omega | (simp <;> omega)) _ | with_reducible refine Below.setCell ?_ (by first | omega | (simp <;> omega)) _ | with_reducible refine Below.step2 (by with_reducible assumption) ?_ | with_reducible refine Below.step (by with_reducible assumption) ?_ (by first | omega | (simp <;> omega)))), rfl⟩
  go_enter Tryz.func43, Tryz.ntmps43
  go_wp2_with (first
      | (go_at_call 24; with_reducible refine (E1.out _).mono ?_; rintro e w' ⟨rfl, rfl⟩)
      | (go_at_call 24; with_reducible refine (E2.out _).mono ?_; rintro e w' ⟨rfl, rfl⟩)
      | (go_at_call 24; with_reducible refine (E3.out _).mono ?_; rintro e w' ⟨rfl, rfl⟩))
  go_loop [3] (fun i => ∃ k : Nat, k ≤ n ∧ i = .int .i64 k ∧ Hid (allIn (-1000000) 1000000 (a.take k) = true)) (fun i => n - (intOf i).toNat)
  case atStart => exact ⟨0, Nat.zero_le _, rfl, by exact Lib.hid rfl⟩
  case round =>
    obtain ⟨k, hk, rfl, hall⟩ := hrel
    by_cases hlt : k < n
    · obtain ⟨b, o, x, rfl, hb, hx, hc⟩ := HA0.out.at_ hlt
      have HX := Lib.hid hx
      clear hx
      obtain ⟨v, hv⟩ : ∃ v, inR (-1000000) 1000000 x = v := ⟨_, rfl⟩
      have HV := Lib.hid hv
      have HW := Lib.hid (within_b hv)
      clear hv
      cases v
      · go_wp2_with (go_at_call 24; with_reducible refine (HW.out _).mono ?_; rintro e w' ⟨rfl, rfl⟩)
        go_ret
        refine ⟨(by repeat (first | with_reducible exact Below.refl _ _ | with_reducible assumption | with_reducible refine Below.drew ?_ | with_reducible refine Below.drewN ?_ _ | with_reducible refine Below.alloc2 ?_ _ | with_reducible refine Below.alloc ?_ (by first | omega | (simp <;> omega)) _ | with_reducible refine Below.setCell ?_ (by first | omega | (simp <;> omega)) _ | with_reducible refine Below.step2 (by with_reducible assumption) ?_ | with_reducible refine Below.step (by with_reducible assumption) ?_ (by first | omega | (simp <;> omega)))), ret_int ?_⟩
        rw [show b4 = false by rw [← E4.out]; exact allIn_not HX.out HV.out]
        rfl
      · go_wp2_with (go_at_call 24; with_reducible refine (HW.out _).mono ?_; rintro e w' ⟨rfl, rfl⟩)
        go_round
        case rel => exact ⟨k + 1, by omega, by go_num, Lib.hid (allIn_snoc HX.out hall.out HV.out)⟩
        case measure => simp [intOf]; omega
    · have h4 : b4 = true := by
        rw [← E4.out]
        have := hall.out
        rwa [List.take_of_length_le (by rw [HLA.out]; omega)] at this
      subst h4
      go_wp2
      go_loop [4] (fun i => ∃ k : Nat, k ≤ n2 ∧ i = .int .i64 k ∧ Hid (allIn 1 1000000 (lv.take k) = true)) (fun i => n2 - (intOf i).toNat)
      case atStart => exact ⟨0, Nat.zero_le _, rfl, by exact Lib.hid rfl⟩
      case round =>
        obtain ⟨k, hk, rfl, hall⟩ := hrel
        by_cases hlt : k < n2
        · obtain ⟨b, o, x, rfl, hb, hx, hc⟩ := HB0.out.at_ hlt
          have HX := Lib.hid hx
          clear hx
          obtain ⟨v, hv⟩ : ∃ v, inR 1 1000000 x = v := ⟨_, rfl⟩
          have HV := Lib.hid hv
          have HW := Lib.hid (within_b hv)
          clear hv
          cases v
          · go_wp2_with (go_at_call 24; with_reducible refine (HW.out _).mono ?_; rintro e w' ⟨rfl, rfl⟩)
            go_ret
            refine ⟨(by repeat (first | with_reducible exact Below.refl _ _ | with_reducible assumption | with_reducible refine Below.drew ?_ | with_reducible refine Below.drewN ?_ _ | with_reducible refine Below.alloc2 ?_ _ | with_reducible refine Below.alloc ?_ (by first | omega | (simp <;> omega)) _ | with_reducible refine Below.setCell ?_ (by first | omega | (simp <;> omega)) _ | with_reducible refine Below.step2 (by with_reducible assumption) ?_ | with_reducible refine Below.step (by with_reducible assumption) ?_ (by first | omega | (simp <;> omega)))), ret_int ?_⟩
            rw [show b5 = false by rw [← E5.out]; exact allIn_not HX.out HV.out]
            rfl
          · go_wp2_with (go_at_call 24; with_reducible refine (HW.out _).mono ?_; rintro e w' ⟨rfl, rfl⟩)
            go_round
            case rel => exact ⟨k + 1, by omega, by go_num, Lib.hid (allIn_snoc HX.out hall.out HV.out)⟩
            case measure => simp [intOf]; omega
        · have h5 : b5 = true := by
            rw [← E5.out]
            have := hall.out
            rwa [List.take_of_length_le (by rw [HLB.out]; omega)] at this
          subst h5
          cases b6
          · go_wp2_with (first
                | (go_at_call 53; with_reducible refine (E6.out _ ?_).mono ?_; (focus (exact (by repeat (first | with_reducible exact Below.refl _ _ | with_reducible assumption | with_reducible refine Below.drew ?_ | with_reducible refine Below.drewN ?_ _ | with_reducible refine Below.alloc2 ?_ _ | with_reducible refine Below.alloc ?_ (by first | omega | (simp <;> omega)) _ | with_reducible refine Below.setCell ?_ (by first | omega | (simp <;> omega)) _ | with_reducible refine Below.step2 (by with_reducible assumption) ?_ | with_reducible refine Below.step (by with_reducible assumption) ?_ (by first | omega | (simp <;> omega)))))); rintro e w1 ⟨hb1, rfl⟩; have hbk1 : Bk w1 w.heap.size 24 #[.int .i64 f, .slice A n c, .slice A2 n2 c2] := (by repeat (first | with_reducible assumption | with_reducible exact Bk.at_ (by first | (simp; done) | omega) | with_reducible refine Bk.alloc ?_ _ | with_reducible refine Bk.drew ?_ | with_reducible refine Bk.drewN ?_ _ | with_reducible refine Bk.step (by with_reducible assumption) ?_ (by first | omega | (simp <;> omega)))); obtain ⟨⟨q0, q1, q2⟩, -⟩ := hbk1.three; have oz := hb1.size; (try simp at oz); have hbx : Below w.heap.size w w1 := (by repeat (first | with_reducible exact Below.refl _ _ | with_reducible assumption | with_reducible refine Below.drew ?_ | with_reducible refine Below.drewN ?_ _ | with_reducible refine Below.alloc2 ?_ _ | with_reducible refine Below.alloc ?_ (by first | omega | (simp <;> omega)) _ | with_reducible refine Below.setCell ?_ (by first | omega | (simp <;> omega)) _ | with_reducible refine Below.step2 (by with_reducible assumption) ?_ | with_reducible refine Below.step (by with_reducible assumption) ?_ (by first | omega | (simp <;> omega)))))
                | (go_at_call 53; with_reducible refine (E7.out _ ?_).mono ?_; (focus (exact (by repeat (first | with_reducible exact Below.refl _ _ | with_reducible assumption | with_reducible refine Below.drew ?_ | with_reducible refine Below.drewN ?_ _ | with_reducible refine Below.alloc2 ?_ _ | with_reducible refine Below.alloc ?_ (by first | omega | (simp <;> omega)) _ | with_reducible refine Below.setCell ?_ (by first | omega | (simp <;> omega)) _ | with_reducible refine Below.step2 (by with_reducible assumption) ?_ | with_reducible refine Below.step (by with_reducible assumption) ?_ (by first | omega | (simp <;> omega)))))); rintro e w1 ⟨hb1, rfl⟩; have hbk1 : Bk w1 w.heap.size 24 #[.int .i64 f, .slice A n c, .slice A2 n2 c2] := (by repeat (first | with_reducible assumption | with_reducible exact Bk.at_ (by first | (simp; done) | omega) | with_reducible refine Bk.alloc ?_ _ | with_reducible refine Bk.drew ?_ | with_reducible refine Bk.drewN ?_ _ | with_reducible refine Bk.step (by with_reducible assumption) ?_ (by first | omega | (simp <;> omega)))); obtain ⟨⟨q0, q1, q2⟩, -⟩ := hbk1.three; have oz := hb1.size; (try simp at oz); have hbx : Below w.heap.size w w1 := (by repeat (first | with_reducible exact Below.refl _ _ | with_reducible assumption | with_reducible refine Below.drew ?_ | with_reducible refine Below.drewN ?_ _ | with_reducible refine Below.alloc2 ?_ _ | with_reducible refine Below.alloc ?_ (by first | omega | (simp <;> omega)) _ | with_reducible refine Below.setCell ?_ (by first | omega | (simp <;> omega)) _ | with_reducible refine Below.step2 (by with_reducible assumption) ?_ | with_reducible refine Below.step (by with_reducible assumption) ?_ (by first | omega | (simp <;> omega))))))
            go_ret
            exact ⟨(by repeat (first | with_reducible exact Below.refl _ _ | with_reducible assumption | with_reducible refine Below.drew ?_ | with_reducible refine Below.drewN ?_ _ | with_reducible refine Below.alloc2 ?_ _ | with_reducible refine Below.alloc ?_ (by first | omega | (simp <;> omega)) _ | with_reducible refine Below.setCell ?_ (by first | omega | (simp <;> omega)) _ | with_reducible refine Below.step2 (by with_reducible assumption) ?_ | with_reducible refine Below.step (by with_reducible assumption) ?_ (by first | omega | (simp <;> omega)))), rfl⟩
          cases b7
          · go_wp2_with (first
                | (go_at_call 53; with_reducible refine (E6.out _ ?_).mono ?_; (focus (exact (by repeat (first | with_reducible exact Below.refl _ _ | with_reducible assumption | with_reducible refine Below.drew ?_ | with_reducible refine Below.drewN ?_ _ | with_reducible refine Below.alloc2 ?_ _ | with_reducible refine Below.alloc ?_ (by first | omega | (simp <;> omega)) _ | with_reducible refine Below.setCell ?_ (by first | omega | (simp <;> omega)) _ | with_reducible refine Below.step2 (by with_reducible assumption) ?_ | with_reducible refine Below.step (by with_reducible assumption) ?_ (by first | omega | (simp <;> omega)))))); rintro e w1 ⟨hb1, rfl⟩; have hbk1 : Bk w1 w.heap.size 24 #[.int .i64 f, .slice A n c, .slice A2 n2 c2] := (by repeat (first | with_reducible assumption | with_reducible exact Bk.at_ (by first | (simp; done) | omega) | with_reducible refine Bk.alloc ?_ _ | with_reducible refine Bk.drew ?_ | with_reducible refine Bk.drewN ?_ _ | with_reducible refine Bk.step (by with_reducible assumption) ?_ (by first | omega | (simp <;> omega)))); obtain ⟨⟨q0, q1, q2⟩, -⟩ := hbk1.three; have oz := hb1.size; (try simp at oz); have hbx : Below w.heap.size w w1 := (by repeat (first | with_reducible exact Below.refl _ _ | with_reducible assumption | with_reducible refine Below.drew ?_ | with_reducible refine Below.drewN ?_ _ | with_reducible refine Below.alloc2 ?_ _ | with_reducible refine Below.alloc ?_ (by first | omega | (simp <;> omega)) _ | with_reducible refine Below.setCell ?_ (by first | omega | (simp <;> omega)) _ | with_reducible refine Below.step2 (by with_reducible assumption) ?_ | with_reducible refine Below.step (by with_reducible assumption) ?_ (by first | omega | (simp <;> omega)))))
                | (go_at_call 53; with_reducible refine (E7.out _ ?_).mono ?_; (focus (exact (by repeat (first | with_reducible exact Below.refl _ _ | with_reducible assumption | with_reducible refine Below.drew ?_ | with_reducible refine Below.drewN ?_ _ | with_reducible refine Below.alloc2 ?_ _ | with_reducible refine Below.alloc ?_ (by first | omega | (simp <;> omega)) _ | with_reducible refine Below.setCell ?_ (by first | omega | (simp <;> omega)) _ | with_reducible refine Below.step2 (by with_reducible assumption) ?_ | with_reducible refine Below.step (by with_reducible assumption) ?_ (by first | omega | (simp <;> omega)))))); rintro e w1 ⟨hb1, rfl⟩; have hbk1 : Bk w1 w.heap.size 24 #[.int .i64 f, .slice A n c, .slice A2 n2 c2] := (by repeat (first | with_reducible assumption | with_reducible exact Bk.at_ (by first | (simp; done) | omega) | with_reducible refine Bk.alloc ?_ _ | with_reducible refine Bk.drew ?_ | with_reducible refine Bk.drewN ?_ _ | with_reducible refine Bk.step (by with_reducible assumption) ?_ (by first | omega | (simp <;> omega)))); obtain ⟨⟨q0, q1, q2⟩, -⟩ := hbk1.three; have oz := hb1.size; (try simp at oz); have hbx : Below w.heap.size w w1 := (by repeat (first | with_reducible exact Below.refl _ _ | with_reducible assumption | with_reducible refine Below.drew ?_ | with_reducible refine Below.drewN ?_ _ | with_reducible refine Below.alloc2 ?_ _ | with_reducible refine Below.alloc ?_ (by first | omega | (simp <;> omega)) _ | with_reducible refine Below.setCell ?_ (by first | omega | (simp <;> omega)) _ | with_reducible refine Below.step2 (by with_reducible assumption) ?_ | with_reducible refine Below.step (by with_reducible assumption) ?_ (by first | omega | (simp <;> omega))))))
            go_ret
            exact ⟨(by repeat (first | with_reducible exact Below.refl _ _ | with_reducible assumption | with_reducible refine Below.drew ?_ | with_reducible refine Below.drewN ?_ _ | with_reducible refine Below.alloc2 ?_ _ | with_reducible refine Below.alloc ?_ (by first | omega | (simp <;> omega)) _ | with_reducible refine Below.setCell ?_ (by first | omega | (simp <;> omega)) _ | with_reducible refine Below.step2 (by with_reducible assumption) ?_ | with_reducible refine Below.step (by with_reducible assumption) ?_ (by first | omega | (simp <;> omega)))), rfl⟩
          · go_wp2_with (first
                | (go_at_call 53; with_reducible refine (E6.out _ ?_).mono ?_; (focus (exact (by repeat (first | with_reducible exact Below.refl _ _ | with_reducible assumption | with_reducible refine Below.drew ?_ | with_reducible refine Below.drewN ?_ _ | with_reducible refine Below.alloc2 ?_ _ | with_reducible refine Below.alloc ?_ (by first | omega | (simp <;> omega)) _ | with_reducible refine Below.setCell ?_ (by first | omega | (simp <;> omega)) _ | with_reducible refine Below.step2 (by with_reducible assumption) ?_ | with_reducible refine Below.step (by with_reducible assumption) ?_ (by first | omega | (simp <;> omega)))))); rintro e w1 ⟨hb1, rfl⟩; have hbk1 : Bk w1 w.heap.size 24 #[.int .i64 f, .slice A n c, .slice A2 n2 c2] := (by repeat (first | with_reducible assumption | with_reducible exact Bk.at_ (by first | (simp; done) | omega) | with_reducible refine Bk.alloc ?_ _ | with_reducible refine Bk.drew ?_ | with_reducible refine Bk.drewN ?_ _ | with_reducible refine Bk.step (by with_reducible assumption) ?_ (by first | omega | (simp <;> omega)))); obtain ⟨⟨q0, q1, q2⟩, -⟩ := hbk1.three; have oz := hb1.size; (try simp at oz); have hbx : Below w.heap.size w w1 := (by repeat (first | with_reducible exact Below.refl _ _ | with_reducible assumption | with_reducible refine Below.drew ?_ | with_reducible refine Below.drewN ?_ _ | with_reducible refine Below.alloc2 ?_ _ | with_reducible refine Below.alloc ?_ (by first | omega | (simp <;> omega)) _ | with_reducible refine Below.setCell ?_ (by first | omega | (simp <;> omega)) _ | with_reducible refine Below.step2 (by with_reducible assumption) ?_ | with_reducible refine Below.step (by with_reducible assumption) ?_ (by first | omega | (simp <;> omega)))))
                | (go_at_call 53; with_reducible refine (E7.out _ ?_).mono ?_; (focus (exact (by repeat (first | with_reducible exact Below.refl _ _ | with_reducible assumption | with_reducible refine Below.drew ?_ | with_reducible refine Below.drewN ?_ _ | with_reducible refine Below.alloc2 ?_ _ | with_reducible refine Below.alloc ?_ (by first | omega | (simp <;> omega)) _ | with_reducible refine Below.setCell ?_ (by first | omega | (simp <;> omega)) _ | with_reducible refine Below.step2 (by with_reducible assumption) ?_ | with_reducible refine Below.step (by with_reducible assumption) ?_ (by first | omega | (simp <;> omega)))))); rintro e w1 ⟨hb1, rfl⟩; have hbk1 : Bk w1 w.heap.size 24 #[.int .i64 f, .slice A n c, .slice A2 n2 c2] := (by repeat (first | with_reducible assumption | with_reducible exact Bk.at_ (by first | (simp; done) | omega) | with_reducible refine Bk.alloc ?_ _ | with_reducible refine Bk.drew ?_ | with_reducible refine Bk.drewN ?_ _ | with_reducible refine Bk.step (by with_reducible assumption) ?_ (by first | omega | (simp <;> omega)))); obtain ⟨⟨q0, q1, q2⟩, -⟩ := hbk1.three; have oz := hb1.size; (try simp at oz); have hbx : Below w.heap.size w w1 := (by repeat (first | with_reducible exact Below.refl _ _ | with_reducible assumption | with_reducible refine Below.drew ?_ | with_reducible refine Below.drewN ?_ _ | with_reducible refine Below.alloc2 ?_ _ | with_reducible refine Below.alloc ?_ (by first | omega | (simp <;> omega)) _ | with_reducible refine Below.setCell ?_ (by first | omega | (simp <;> omega)) _ | with_reducible refine Below.step2 (by with_reducible assumption) ?_ | with_reducible refine Below.step (by with_reducible assumption) ?_ (by first | omega | (simp <;> omega))))))
            go_ret
            exact ⟨(by repeat (first | with_reducible exact Below.refl _ _ | with_reducible assumption | with_reducible refine Below.drew ?_ | with_reducible refine Below.drewN ?_ _ | with_reducible refine Below.alloc2 ?_ _ | with_reducible refine Below.alloc ?_ (by first | omega | (simp <;> omega)) _ | with_reducible refine Below.setCell ?_ (by first | omega | (simp <;> omega)) _ | with_reducible refine Below.step2 (by with_reducible assumption) ?_ | with_reducible refine Below.step (by with_reducible assumption) ?_ (by first | omega | (simp <;> omega)))), rfl⟩

end Go.Proofs.YtgljncfijcamhaaGreatDoor
