/- The law BuildingOutlines, out of its callees' contracts. -/
import Derived.Test.YtbfbjpnmgcpjlaaPoints
import Derived.Test.YtbfbjpnmgcpjlaaAwake
namespace Go.Proofs.Ytbfbjpnmgcpjlaa
open Go.RowKit

set_option maxRecDepth 100000 in
set_option maxHeartbeats 4000000 in
theorem lawOut_many (A : Option Addr) (n c : Nat) (w : World) (hm : n ≤ 9223372036854775807) (hn : 45 < n) :
    Calls Try.prog 5 #[.slice A n c] w fun e w' => Below w.heap.size w w' ∧ e = .returned (.bool true) := by
  have hf : decide (n ≤ 45) = false := by simp; omega
  have HFEW := Lib.hid (fun W : World => few_any A n c W hm)
  rw [hf] at HFEW
  clear hf
  go_enter Try.func5, Try.ntmps5
  go_wp2_with fail
  refine (awake_any _).mono ?_
  rintro e w1 ⟨hb1, rfl⟩
  have HB1 : Hid (Below w.heap.size w w1) := Lib.hid hb1
  clear hb1
  go_wp2_with fail
  refine (HFEW.out _).mono ?_
  rintro e w1' ⟨rfl, rfl⟩
  go_wp2
  go_ret
  exact ⟨HB1.out, rfl⟩

set_option maxRecDepth 100000 in
set_option maxHeartbeats 4000000 in
theorem lawOut_bad (A : Option Addr) (n c : Nat) (l : List (Int × Int)) (w : World) (h : Pts w w.heap.size A n c l) (hA : A = none → n = 0 ∧ c = 0) (hn : n ≤ 45) (ho : outErr l ≠ 0) :
    Calls Try.prog 5 #[.slice A n c] w fun e w' => Below w.heap.size w w' ∧ e = .returned (.bool true) := by
  have hm := h.max
  have hcp := h.cap
  have hf : decide (n ≤ 45) = true := by simp; omega
  have HFEW := Lib.hid (fun W : World => few_any A n c W (by omega))
  rw [hf] at HFEW
  have H : Hid (∀ w', Below w.heap.size w w' → Pts w' w'.heap.size A n c l) := fun w' hb => h.below hb (Nat.le_refl _) hb.size
  have HPO := Lib.hid (fun (W : World) (hb : Below w.heap.size w W) => points_any A n c l W (h.below hb (Nat.le_refl _) hb.size) hA (by omega))
  have HAR := Lib.hid (fun (A : Option Addr) (c : Nat) (W : World) (hp : Pts W W.heap.size A n c l) => area_any A n c l W hp)
  have HWA := Lib.hid (fun (A : Option Addr) (c : Nat) (W : World) (hp : Pts W W.heap.size A n c l) => walls_any A n c l W hp)
  have HCO := Lib.hid (fun (A : Option Addr) (c : Nat) (W : World) (hp : Pts W W.heap.size A n c l) => corners_any A n c l W hp)
  have HRE := Lib.hid (fun (W : World) (hp : Pts W W.heap.size A n c l) => refCheckOutline_any A n c l W hp)
  have HCH := Lib.hid (fun (A : Option Addr) (c : Nat) (W : World) (hp : Pts W W.heap.size A n c l) => checkOutline_any A n c l W hp)
  have hne : (outErr l != 0) = true := by simpa using ho
  rw [if_neg ho] at HAR HWA HCO
  generalize outErr l = E at *
  clear h hA hf ho
  go_enter Try.func5, Try.ntmps5
  go_wp2_with fail
  refine (awake_any _).mono ?_
  rintro e w1 ⟨hb1, rfl⟩
  have HB1 : Hid (Below w.heap.size w w1) := Lib.hid hb1
  clear hb1
  go_wp2_with fail
  refine (HFEW.out _).mono ?_
  rintro e w1' ⟨rfl, rfl⟩
  go_wp2_with fail
  refine (HPO.out w1 HB1.out).mono ?_
  rintro e w2 ⟨hb2, A2, c2, rfl, hp2⟩
  have HB2 : Hid (Below w.heap.size w w2) := Lib.hid (Below.step2 hb2 HB1.out)
  have HS2 := Lib.hid hb2
  have HP2 := Lib.hid hp2
  clear hb2 hp2
  go_wp2_with fail
  refine (HAR.out A2 c2 _ HP2.out).mono ?_
  rintro e w3 ⟨hb3, rfl⟩
  have HB3 : Hid (Below w.heap.size w w3) := Lib.hid (Below.step2 hb3 HB2.out)
  have HS3 := Lib.hid hb3
  clear hb3
  go_wp2_with fail
  refine (HPO.out w3 HB3.out).mono ?_
  rintro e w4 ⟨hb4, A4, c4, rfl, hp4⟩
  have HB4 : Hid (Below w.heap.size w w4) := Lib.hid (Below.step2 hb4 HB3.out)
  have HS4 := Lib.hid hb4
  have HP4 := Lib.hid hp4
  clear hb4 hp4
  go_wp2_with fail
  refine (HWA.out A4 c4 _ HP4.out).mono ?_
  rintro e w5 ⟨hb5, A5, n5, c5, rfl, hw5⟩
  have HB5 : Hid (Below w.heap.size w w5) := Lib.hid (Below.step2 hb5 HB4.out)
  have HS5 := Lib.hid hb5
  have HW5 := Lib.hid hw5
  clear hb5 hw5
  go_wp2_with fail
  refine (HPO.out w5 HB5.out).mono ?_
  rintro e w6 ⟨hb6, A6, c6, rfl, hp6⟩
  have HB6 : Hid (Below w.heap.size w w6) := Lib.hid (Below.step2 hb6 HB5.out)
  have HS6 := Lib.hid hb6
  have HP6 := Lib.hid hp6
  clear hb6 hp6
  go_wp2_with fail
  refine (HCO.out A6 c6 _ HP6.out).mono ?_
  rintro e w7 ⟨hb7, A7, n7, c7, rfl, hn7⟩
  have HB7 : Hid (Below w.heap.size w w7) := Lib.hid (Below.step2 hb7 HB6.out)
  have HS7 := Lib.hid hb7
  have HN7 := Lib.hid hn7
  clear hb7 hn7
  go_wp2_with fail
  refine (HRE.out _ (H.out _ HB7.out)).mono ?_
  rintro e w8 ⟨hb8, rfl⟩
  have HB8 : Hid (Below w.heap.size w w8) := Lib.hid (Below.step2 hb8 HB7.out)
  have HS8 := Lib.hid hb8
  clear hb8
  go_wp2_with fail
  refine (HPO.out w8 HB8.out).mono ?_
  rintro e w9 ⟨hb9, A9, c9, rfl, hp9⟩
  have HB9 : Hid (Below w.heap.size w w9) := Lib.hid (Below.step2 hb9 HB8.out)
  have HS9 := Lib.hid hb9
  have HP9 := Lib.hid hp9
  clear hb9 hp9
  go_wp2_with fail
  refine (HCH.out A9 c9 _ HP9.out).mono ?_
  rintro e w10 ⟨hb10, rfl⟩
  have HB10 : Hid (Below w.heap.size w w10) := Lib.hid (Below.step2 hb10 HB9.out)
  have HS10 := Lib.hid hb10
  clear hb10
  obtain rfl : n5 = 0 := by have := HW5.out.len; simpa using this.symm
  obtain rfl : n7 = 0 := by have := HN7.out.len; simpa using this.symm
  go_wp2
  go_ret
  exact ⟨HB10.out, rfl⟩

set_option maxRecDepth 100000 in
set_option maxHeartbeats 8000000 in
theorem lawOut_good (A : Option Addr) (n c : Nat) (l : List (Int × Int)) (w : World) (h : Pts w w.heap.size A n c l) (hA : A = none → n = 0 ∧ c = 0) (hn : n ≤ 45) (ho : outErr l = 0) :
    Calls Try.prog 5 #[.slice A n c] w fun e w' => Below w.heap.size w w' ∧ e = .returned (.bool true) := by
  have hm := h.max
  have hcp := h.cap
  have hf : decide (n ≤ 45) = true := by simp; omega
  have HFEW := Lib.hid (fun W : World => few_any A n c W (by omega))
  rw [hf] at HFEW
  have H : Hid (∀ w', Below w.heap.size w w' → Pts w' w'.heap.size A n c l) := fun w' hb => h.below hb (Nat.le_refl _) hb.size
  have HPO := Lib.hid (fun (W : World) (hb : Below w.heap.size w W) => points_any A n c l W (h.below hb (Nat.le_refl _) hb.size) hA (by omega))
  have HAR := Lib.hid (fun (A : Option Addr) (c : Nat) (W : World) (hp : Pts W W.heap.size A n c l) => area_any A n c l W hp)
  have HWA := Lib.hid (fun (A : Option Addr) (c : Nat) (W : World) (hp : Pts W W.heap.size A n c l) => walls_any A n c l W hp)
  have HCO := Lib.hid (fun (A : Option Addr) (c : Nat) (W : World) (hp : Pts W W.heap.size A n c l) => corners_any A n c l W hp)
  have HRE := Lib.hid (fun (W : World) (hp : Pts W W.heap.size A n c l) => refCheckOutline_any A n c l W hp)
  have HCH := Lib.hid (fun (A : Option Addr) (c : Nat) (W : World) (hp : Pts W W.heap.size A n c l) => checkOutline_any A n c l W hp)
  obtain ⟨h4, h40, hin, -, -, hT⟩ := outErr_ok ho
  have HRW := Lib.hid (fun (W : World) (hp : Pts W W.heap.size A n c l) => refWalls_any A n c l W hp (by omega) hin)
  have HRC := Lib.hid (fun (W : World) (hp : Pts W W.heap.size A n c l) => refCorners_any A n c l W hp (by omega) hin)
  have HRA := Lib.hid (fun (W : World) (hp : Pts W W.heap.size A n c l) => refArea_any A n c l W hp (by omega) hin)
  have ht : (twice l).tdiv 2 = twice l / 2 := Int.tdiv_eq_ediv_of_nonneg hT
  rw [ht] at HRA
  rw [if_pos ho, ho] at HAR HWA HCO
  rw [ho] at HRE HCH
  have HIN := Lib.hid (fun (A A' : Option Addr) (n c n' c' : Nat) (l m : List Int) (W : World) (h : Nums W W.heap.size A n c l) (h' : Nums W W.heap.size A' n' c' m) => ints_any A A' n c n' c' l m W h h')
  have HSL : Hid ((sides l).length = n) := Lib.hid (by rw [sides_length, h.len])
  generalize twice l / 2 = R at *
  clear h hA hf ho hin hT ht h4 h40
  go_enter Try.func5, Try.ntmps5
  go_wp2_with fail
  refine (awake_any _).mono ?_
  rintro e w1 ⟨hb1, rfl⟩
  have HB1 : Hid (Below w.heap.size w w1) := Lib.hid hb1
  clear hb1
  go_wp2_with fail
  refine (HFEW.out _).mono ?_
  rintro e w1' ⟨rfl, rfl⟩
  go_wp2_with fail
  refine (HPO.out w1 HB1.out).mono ?_
  rintro e w2 ⟨hb2, A2, c2, rfl, hp2⟩
  have HB2 : Hid (Below w.heap.size w w2) := Lib.hid (Below.step2 hb2 HB1.out)
  have HS2 := Lib.hid hb2
  have HP2 := Lib.hid hp2
  clear hb2 hp2
  go_wp2_with fail
  refine (HAR.out A2 c2 _ HP2.out).mono ?_
  rintro e w3 ⟨hb3, rfl⟩
  have HB3 : Hid (Below w.heap.size w w3) := Lib.hid (Below.step2 hb3 HB2.out)
  have HS3 := Lib.hid hb3
  clear hb3
  go_wp2_with fail
  refine (HPO.out w3 HB3.out).mono ?_
  rintro e w4 ⟨hb4, A4, c4, rfl, hp4⟩
  have HB4 : Hid (Below w.heap.size w w4) := Lib.hid (Below.step2 hb4 HB3.out)
  have HS4 := Lib.hid hb4
  have HP4 := Lib.hid hp4
  clear hb4 hp4
  go_wp2_with fail
  refine (HWA.out A4 c4 _ HP4.out).mono ?_
  rintro e w5 ⟨hb5, A5, n5, c5, rfl, hw5⟩
  have HB5 : Hid (Below w.heap.size w w5) := Lib.hid (Below.step2 hb5 HB4.out)
  have HS5 := Lib.hid hb5
  have HW5 := Lib.hid hw5
  clear hb5 hw5
  go_wp2_with fail
  refine (HPO.out w5 HB5.out).mono ?_
  rintro e w6 ⟨hb6, A6, c6, rfl, hp6⟩
  have HB6 : Hid (Below w.heap.size w w6) := Lib.hid (Below.step2 hb6 HB5.out)
  have HS6 := Lib.hid hb6
  have HP6 := Lib.hid hp6
  clear hb6 hp6
  go_wp2_with fail
  refine (HCO.out A6 c6 _ HP6.out).mono ?_
  rintro e w7 ⟨hb7, A7, n7, c7, rfl, hn7⟩
  have HB7 : Hid (Below w.heap.size w w7) := Lib.hid (Below.step2 hb7 HB6.out)
  have HS7 := Lib.hid hb7
  have HN7 := Lib.hid hn7
  clear hb7 hn7
  go_wp2_with fail
  refine (HRE.out _ (H.out _ HB7.out)).mono ?_
  rintro e w8 ⟨hb8, rfl⟩
  have HB8 : Hid (Below w.heap.size w w8) := Lib.hid (Below.step2 hb8 HB7.out)
  have HS8 := Lib.hid hb8
  clear hb8
  go_wp2_with fail
  refine (HPO.out w8 HB8.out).mono ?_
  rintro e w9 ⟨hb9, A9, c9, rfl, hp9⟩
  have HB9 : Hid (Below w.heap.size w w9) := Lib.hid (Below.step2 hb9 HB8.out)
  have HS9 := Lib.hid hb9
  have HP9 := Lib.hid hp9
  clear hb9 hp9
  go_wp2_with fail
  refine (HCH.out A9 c9 _ HP9.out).mono ?_
  rintro e w10 ⟨hb10, rfl⟩
  have HB10 : Hid (Below w.heap.size w w10) := Lib.hid (Below.step2 hb10 HB9.out)
  have HS10 := Lib.hid hb10
  clear hb10
  obtain rfl : n5 = n := by have := HW5.out.len; rw [HSL.out] at this; exact this.symm
  go_wp2_with fail
  refine (HRW.out _ (H.out _ HB10.out)).mono ?_
  rintro e w11 ⟨hb11, A11, c11, rfl, hw11⟩
  have HB11 : Hid (Below w.heap.size w w11) := Lib.hid (Below.step2 hb11 HB10.out)
  have HS11 := Lib.hid hb11
  have HW11 := Lib.hid hw11
  clear hb11 hw11
  go_wp2_with fail
  refine (HRA.out _ (H.out _ HB11.out)).mono ?_
  rintro e w12 ⟨hb12, rfl⟩
  have HB12 : Hid (Below w.heap.size w w12) := Lib.hid (Below.step2 hb12 HB11.out)
  have HS12 := Lib.hid hb12
  clear hb12
  go_wp2_with fail
  refine (HRC.out _ (H.out _ HB12.out)).mono ?_
  rintro e w13 ⟨hb13, A13, c13, rfl, hn13⟩
  have HB13 : Hid (Below w.heap.size w w13) := Lib.hid (Below.step2 hb13 HB12.out)
  have HS13 := Lib.hid hb13
  have HN13 := Lib.hid hn13
  clear hb13 hn13
  have HS7_13 : Hid (Below w7.heap.size w7 w13) := Lib.hid (Below.step2 HS13.out (Below.step2 HS12.out (Below.step2 HS11.out (Below.step2 HS10.out (Below.step2 HS9.out HS8.out)))))
  have HN7' := Lib.hid (HN7.out.below HS7_13.out (Nat.le_refl _) HS7_13.out.size)
  have HI := Lib.hid (HIN.out A7 A13 n7 c7 n5 c13 _ _ w13 HN7'.out HN13.out)
  go_wp2_with fail
  refine HI.out.mono ?_
  rintro e w14 ⟨hb14, rfl⟩
  have HB14 : Hid (Below w.heap.size w w14) := Lib.hid (Below.step2 hb14 HB13.out)
  have HS14 := Lib.hid hb14
  clear hb14
  have HS5_14 : Hid (Below w5.heap.size w5 w14) := Lib.hid (Below.step2 HS14.out (Below.step2 HS7_13.out (Below.step2 HS7.out HS6.out)))
  have HS11_14 : Hid (Below w11.heap.size w11 w14) := Lib.hid (Below.step2 HS14.out (Below.step2 HS13.out HS12.out))
  have HW5' := Lib.hid (HW5.out.below HS5_14.out (Nat.le_refl _) HS5_14.out.size)
  have HW11' := Lib.hid (HW11.out.below HS11_14.out (Nat.le_refl _) HS11_14.out.size)
  have hcp5 := HW5.out.cap
  have hmx5 := HW5.out.max
  go_wp2
  go_loopw [11] (fun i wr => ∃ k : Nat, k ≤ n5 ∧ i = .int .i64 k ∧ ∃ q, wr = w14.drewN q) (fun i _ => n5 - (intOf i).toNat)
  case atStart => exact ⟨0, Nat.zero_le _, rfl, 0, rfl⟩
  case round =>
    obtain ⟨k, hk, rfl, q, rfl⟩ := hrel
    by_cases hlt : k < n5
    · obtain ⟨b, o, s, rfl, hbb, hx, a0, a1, a2, a3, a4, a5⟩ := HW5'.out.at_ hlt
      obtain ⟨b', o', s', rfl, hbb', hx', d0, d1, d2, d3, d4, d5⟩ := HW11'.out.at_ hlt
      have es : s' = s := by rw [hx] at hx'; exact (Option.some.inj hx').symm
      rw [es] at d0 d1 d2 d3 d4 d5
      have hnq := fun W : World => neq_wall s.x1 s.y1 s.x2 s.y2 s.len s.dir W
      clear es hx hx'
      go_wp2
      go_quiet (fail)
      go_wp2
      go_roundw
      case rel => exact ⟨k + 1, by omega, by go_num, _, rfl⟩
      case measure => simp [intOf]; omega
    · go_wp2
      go_ret
      exact ⟨Below.drewN HB14.out q, rfl⟩

end Go.Proofs.Ytbfbjpnmgcpjlaa
