/- The walk of CheckOutline; Area, Walls, Corners. -/
import Derived.Test.YtbfbjpnmgcpjlaaTouch
import Derived.Test.YtbfbjpnmgcpjlaaBends
namespace Go.Proofs.Ytbfbjpnmgcpjlaa
open Go.RowKit

/-- The error of an outline. -/
def outErr (l : List (Int × Int)) : Int :=
  if l.length < 4 ∨ 40 < l.length then 11 else if l.all inP = false then 2 else if altS (sides l) = false then 3 else if touchS (sides l) = true then 12 else if twice l < 0 then 10 else 0

theorem allP_snoc {l : List (Int × Int)} {k : Nat} {x y : Int} (hx : l[k]? = some (x, y)) (h : (l.take k).all inP = true) (h2 : inP (x, y) = true) : (l.take (k + 1)).all inP = true := by
  obtain ⟨hk, e⟩ := List.getElem?_eq_some_iff.1 hx
  rw [List.take_succ_eq_append_getElem hk, List.all_append, h, e]
  simpa using h2
theorem allP_not {l : List (Int × Int)} {k : Nat} {x y : Int} (hx : l[k]? = some (x, y)) (h2 : inP (x, y) = false) : l.all inP = false := by
  rw [List.all_eq_false]
  exact ⟨(x, y), List.mem_of_getElem? hx, by rw [h2]; simp⟩

set_option maxRecDepth 100000 in
set_option maxHeartbeats 4000000 in
theorem checkOutline_any (A : Option Addr) (n c : Nat) (l : List (Int × Int)) (w : World) (h : Pts w w.heap.size A n c l) :
    Calls Try.prog 25 #[.slice A n c] w fun e w' => Below w.heap.size w w' ∧ e = .returned (.int .i64 (outErr l)) := by
  have hcap := h.cap
  have hmax := h.max
  have HLEN := Lib.hid h.len
  have H : Hid (∀ w', Below w.heap.size w w' → Pts w' w'.heap.size A n c l) := fun w' hb => h.below hb (Nat.le_refl _) hb.size
  clear h
  by_cases hs : n < 4 ∨ 40 < n
  · have HE : Hid (outErr l = 11) := Lib.hid (by unfold outErr; rw [HLEN.out, if_pos hs])
    rcases hs with hs | hs
    · go_enter Try.func25, Try.ntmps25
      go_wp2
      go_ret
      exact ⟨(by repeat (first | with_reducible exact Below.refl _ _ | with_reducible assumption | with_reducible refine Below.drew ?_ | with_reducible refine Below.drewN ?_ _ | with_reducible refine Below.alloc2 ?_ _ | with_reducible refine Below.alloc ?_ (by first | omega | (simp <;> omega)) _ | with_reducible refine Below.setCell ?_ (by first | omega | (simp <;> omega)) _ | with_reducible refine Below.step2 (by with_reducible assumption) ?_ | with_reducible refine Below.step (by with_reducible assumption) ?_ (by first | omega | (simp <;> omega)))), ret_int HE.out.symm⟩
    · have hs2 : ¬ n < 4 := by omega
      go_enter Try.func25, Try.ntmps25
      go_wp2
      go_ret
      exact ⟨(by repeat (first | with_reducible exact Below.refl _ _ | with_reducible assumption | with_reducible refine Below.drew ?_ | with_reducible refine Below.drewN ?_ _ | with_reducible refine Below.alloc2 ?_ _ | with_reducible refine Below.alloc ?_ (by first | omega | (simp <;> omega)) _ | with_reducible refine Below.setCell ?_ (by first | omega | (simp <;> omega)) _ | with_reducible refine Below.step2 (by with_reducible assumption) ?_ | with_reducible refine Below.step (by with_reducible assumption) ?_ (by first | omega | (simp <;> omega)))), ret_int HE.out.symm⟩
  · have hs1 : 4 ≤ n := by omega
    have hs2 : n ≤ 40 := by omega
    have HE : Hid (outErr l = if l.all inP = false then 2 else if altS (sides l) = false then 3 else if touchS (sides l) = true then 12 else if twice l < 0 then 10 else 0) := Lib.hid (by unfold outErr; rw [HLEN.out, if_neg hs])
    clear hs
    go_enter Try.func25, Try.ntmps25
    go_wp2
    go_loopw [17] (fun i wr => ∃ k : Nat, k ≤ n ∧ i = .int .i64 k ∧ Hid ((l.take k).all inP = true) ∧ Below w.heap.size w wr) (fun i _ => n - (intOf i).toNat)
    case atStart => exact ⟨0, Nat.zero_le _, rfl, Lib.hid rfl, Below.refl _ _⟩
    case round =>
      obtain ⟨k, hk, rfl, hall, hb⟩ := hrel
      by_cases hlt : k < n
      · have hsz := hb.size
        obtain ⟨b, o, x, y, rfl, hbb, hx, c0, c1⟩ := (H.out _ hb).at_ hlt
        have HX := Lib.hid hx
        have HB := Lib.hid hb
        clear hb hx
        rcases hp : inP (x, y)
        · have HP := Lib.hid hp
          have hpe : placeErr x y = 2 := by unfold placeErr; rw [hp]; rfl
          have HPL := Lib.hid (fun W : World => placeError_any x y W)
          rw [hpe] at HPL
          clear hp hpe
          go_wp2_with (go_at_call 59; refine (HPL.out _).mono ?_; rintro e wd ⟨hbd, rfl⟩)
          go_ret
          have hb := HB.out
          exact ⟨(by repeat (first | with_reducible exact Below.refl _ _ | with_reducible assumption | with_reducible refine Below.drew ?_ | with_reducible refine Below.drewN ?_ _ | with_reducible refine Below.alloc2 ?_ _ | with_reducible refine Below.alloc ?_ (by first | omega | (simp <;> omega)) _ | with_reducible refine Below.setCell ?_ (by first | omega | (simp <;> omega)) _ | with_reducible refine Below.step2 (by with_reducible assumption) ?_ | with_reducible refine Below.step (by with_reducible assumption) ?_ (by first | omega | (simp <;> omega)))), ret_int (by rw [HE.out, if_pos (allP_not HX.out HP.out)])⟩
        · have HP := Lib.hid hp
          have hpe : placeErr x y = 0 := by unfold placeErr; rw [hp]; rfl
          have HPL := Lib.hid (fun W : World => placeError_any x y W)
          rw [hpe] at HPL
          clear hp hpe
          go_wp2_with (go_at_call 59; refine (HPL.out _).mono ?_; rintro e wd ⟨hbd, rfl⟩)
          go_roundw
          case rel =>
            have hb := HB.out
            exact ⟨k + 1, by omega, by go_num, Lib.hid (allP_snoc HX.out hall.out HP.out), (by repeat (first | with_reducible exact Below.refl _ _ | with_reducible assumption | with_reducible refine Below.drew ?_ | with_reducible refine Below.drewN ?_ _ | with_reducible refine Below.alloc2 ?_ _ | with_reducible refine Below.alloc ?_ (by first | omega | (simp <;> omega)) _ | with_reducible refine Below.setCell ?_ (by first | omega | (simp <;> omega)) _ | with_reducible refine Below.step2 (by with_reducible assumption) ?_ | with_reducible refine Below.step (by with_reducible assumption) ?_ (by first | omega | (simp <;> omega))))⟩
          case measure => simp [intOf]; omega
      · have HA : Hid (l.all inP = true) := Lib.hid (by have := hall.out; rwa [List.take_of_length_le (by rw [HLEN.out]; omega)] at this)
        have HB := Lib.hid hb
        clear hb hall
        go_wp2_with fail
        refine (sides_any A n c l _ (H.out _ HB.out) HA.out (by omega)).mono ?_
        rintro e w1 ⟨hb1, A1, rfl, hw1⟩
        have HB1 := Lib.hid hb1
        have HW1 : Hid (∀ w', Below w1.heap.size w1 w' → Walls w' w'.heap.size A1 n n (sides l)) := fun w' hb => hw1.below hb (Nat.le_refl _) hb.size
        clear hb1 hw1
        have HAL := Lib.hid (fun (W : World) (hw : Walls W W.heap.size A1 n n (sides l)) => alternate_any A1 n n (sides l) W hw (by omega))
        have HTO := Lib.hid (fun (W : World) (hw : Walls W W.heap.size A1 n n (sides l)) => touch_any A1 n n (sides l) W hw (by omega))
        have HAR := Lib.hid (fun (W : World) (hp : Pts W W.heap.size A n c l) => doubleArea_any A n c l W hp (by omega) HA.out)
        have hE := HE.out
        rw [if_neg (by rw [HA.out]; simp)] at hE
        rcases ha : altS (sides l)
        · have HEE : Hid (outErr l = 3) := Lib.hid (by rw [hE, if_pos ha])
          rw [ha] at HAL
          clear hE ha
          go_wp2_with fail
          refine (HAL.out _ (HW1.out _ (by repeat (first | with_reducible exact Below.refl _ _ | with_reducible assumption | with_reducible refine Below.drew ?_ | with_reducible refine Below.drewN ?_ _ | with_reducible refine Below.alloc2 ?_ _ | with_reducible refine Below.alloc ?_ (by first | omega | (simp <;> omega)) _ | with_reducible refine Below.setCell ?_ (by first | omega | (simp <;> omega)) _ | with_reducible refine Below.step2 (by with_reducible assumption) ?_ | with_reducible refine Below.step (by with_reducible assumption) ?_ (by first | omega | (simp <;> omega)))))).mono ?_
          rintro e w2 ⟨hb2, rfl⟩
          go_wp2
          go_ret
          have hb := HB.out
          have hb1 := HB1.out
          have hz := hb.size
          have hz1 := hb1.size
          exact ⟨(by repeat (first | with_reducible exact Below.refl _ _ | with_reducible assumption | with_reducible refine Below.drew ?_ | with_reducible refine Below.drewN ?_ _ | with_reducible refine Below.alloc2 ?_ _ | with_reducible refine Below.alloc ?_ (by first | omega | (simp <;> omega)) _ | with_reducible refine Below.setCell ?_ (by first | omega | (simp <;> omega)) _ | with_reducible refine Below.step2 (by with_reducible assumption) ?_ | with_reducible refine Below.step (by with_reducible assumption) ?_ (by first | omega | (simp <;> omega)))), ret_int HEE.out.symm⟩
        · rw [if_neg (by rw [ha]; simp)] at hE
          rw [ha] at HAL
          clear ha
          rcases ht : touchS (sides l)
          · rw [if_neg (by rw [ht]; simp)] at hE
            rw [ht] at HTO
            clear ht
            have HEE := Lib.hid hE
            have hbd := twiceTo_bd HA.out n (by rw [HLEN.out]; exact Nat.le_refl _)
            have htw : twice l = twiceTo l n := by unfold twice; rw [HLEN.out]
            rw [← htw] at hbd
            generalize twice l = T at *
            by_cases hT : T < 0
            all_goals
              clear hE htw hbd
              go_wp2_with fail
              refine (HAL.out _ (HW1.out _ (by repeat (first | with_reducible exact Below.refl _ _ | with_reducible assumption | with_reducible refine Below.drew ?_ | with_reducible refine Below.drewN ?_ _ | with_reducible refine Below.alloc2 ?_ _ | with_reducible refine Below.alloc ?_ (by first | omega | (simp <;> omega)) _ | with_reducible refine Below.setCell ?_ (by first | omega | (simp <;> omega)) _ | with_reducible refine Below.step2 (by with_reducible assumption) ?_ | with_reducible refine Below.step (by with_reducible assumption) ?_ (by first | omega | (simp <;> omega)))))).mono ?_
              rintro e w2 ⟨hb2, rfl⟩
              have HB2 : Hid (Below w1.heap.size w1 w2) := Lib.hid hb2
              clear hb2
              go_wp2_with fail
              refine (HTO.out _ (HW1.out _ HB2.out)).mono ?_
              rintro e w3 ⟨hb3, rfl⟩
              have HB3 : Hid (Below w1.heap.size w1 w3) := Lib.hid (HB2.out.trans (hb3.mono HB2.out.size))
              clear hb3
              go_wp2_with fail
              refine (HAR.out _ (H.out _ ((HB.out.trans (HB1.out.mono HB.out.size)).trans (HB3.out.mono (Nat.le_trans HB.out.size HB1.out.size))))).mono ?_
              rintro e w4 ⟨hb4, rfl⟩
              go_wp2
              go_ret
              have hb := HB.out
              have hb1 := HB1.out
              have hb3 := HB3.out
              have hz := hb.size
              have hz1 := hb1.size
              have hz3 := hb3.size
              exact ⟨(by repeat (first | with_reducible exact Below.refl _ _ | with_reducible assumption | with_reducible refine Below.drew ?_ | with_reducible refine Below.drewN ?_ _ | with_reducible refine Below.alloc2 ?_ _ | with_reducible refine Below.alloc ?_ (by first | omega | (simp <;> omega)) _ | with_reducible refine Below.setCell ?_ (by first | omega | (simp <;> omega)) _ | with_reducible refine Below.step2 (by with_reducible assumption) ?_ | with_reducible refine Below.step (by with_reducible assumption) ?_ (by first | omega | (simp <;> omega)))), ret_int (by rw [HEE.out]; first | rw [if_pos hT] | rw [if_neg (by omega)])⟩
          · have HEE : Hid (outErr l = 12) := Lib.hid (by rw [hE, if_pos ht])
            rw [ht] at HTO
            clear hE ht
            go_wp2_with fail
            refine (HAL.out _ (HW1.out _ (by repeat (first | with_reducible exact Below.refl _ _ | with_reducible assumption | with_reducible refine Below.drew ?_ | with_reducible refine Below.drewN ?_ _ | with_reducible refine Below.alloc2 ?_ _ | with_reducible refine Below.alloc ?_ (by first | omega | (simp <;> omega)) _ | with_reducible refine Below.setCell ?_ (by first | omega | (simp <;> omega)) _ | with_reducible refine Below.step2 (by with_reducible assumption) ?_ | with_reducible refine Below.step (by with_reducible assumption) ?_ (by first | omega | (simp <;> omega)))))).mono ?_
            rintro e w2 ⟨hb2, rfl⟩
            have HB2 : Hid (Below w1.heap.size w1 w2) := Lib.hid hb2
            clear hb2
            go_wp2_with fail
            refine (HTO.out _ (HW1.out _ HB2.out)).mono ?_
            rintro e w3 ⟨hb3, rfl⟩
            go_wp2
            go_ret
            have hb := HB.out
            have hb1 := HB1.out
            have hb2 := HB2.out
            have hz := hb.size
            have hz1 := hb1.size
            have hz2 := hb2.size
            exact ⟨(by repeat (first | with_reducible exact Below.refl _ _ | with_reducible assumption | with_reducible refine Below.drew ?_ | with_reducible refine Below.drewN ?_ _ | with_reducible refine Below.alloc2 ?_ _ | with_reducible refine Below.alloc ?_ (by first | omega | (simp <;> omega)) _ | with_reducible refine Below.setCell ?_ (by first | omega | (simp <;> omega)) _ | with_reducible refine Below.step2 (by with_reducible assumption) ?_ | with_reducible refine Below.step (by with_reducible assumption) ?_ (by first | omega | (simp <;> omega)))), ret_int HEE.out.symm⟩

/-- A valid outline. -/
theorem outErr_ok {l : List (Int × Int)} (h : outErr l = 0) : 4 ≤ l.length ∧ l.length ≤ 40 ∧ l.all inP = true ∧ altS (sides l) = true ∧ touchS (sides l) = false ∧ 0 ≤ twice l := by
  unfold outErr at h
  split at h
  · omega
  · split at h
    · omega
    · split at h
      · omega
      · split at h
        · omega
        · split at h
          · omega
          · rename_i a b c d e
            exact ⟨by omega, by omega, by simpa using b, by simpa using c, by simpa using d, by omega⟩

theorem sides_sd {l : List (Int × Int)} {k : Nat} (hk : k < l.length) : sd (sides l) k = sideK l k := by
  apply sd_of
  unfold sides sidesTo
  rw [List.getElem?_map, List.getElem?_range hk]
  rfl
theorem sides_length (l : List (Int × Int)) : (sides l).length = l.length := by unfold sides; rw [sidesTo_length]
theorem sides_dir {l : List (Int × Int)} {k : Nat} (hk : k < l.length) : -1 ≤ (sd (sides l) k).dir ∧ (sd (sides l) k).dir ≤ 3 := by
  rw [sides_sd hk]
  exact dirP_bd _ _

set_option maxHeartbeats 1000000 in
theorem area_any (A : Option Addr) (n c : Nat) (l : List (Int × Int)) (w : World) (h : Pts w w.heap.size A n c l) :
    Calls Try.prog 20 #[.slice A n c] w fun e w' => Below w.heap.size w w' ∧ e = .returned (.tuple #[.int .i64 (if outErr l = 0 then (twice l) / 2 else 0), .int .i64 (outErr l)]) := by
  have HLEN := Lib.hid h.len
  have H : Hid (∀ w', Below w.heap.size w w' → Pts w' w'.heap.size A n c l) := fun w' hb => h.below hb (Nat.le_refl _) hb.size
  have HC := Lib.hid (checkOutline_any A n c l w h)
  by_cases ho : outErr l = 0
  · obtain ⟨h4, h40, hin, -, -, hT⟩ := outErr_ok ho
    have HAR := Lib.hid (fun (W : World) (hp : Pts W W.heap.size A n c l) => doubleArea_any A n c l W hp (by rw [← HLEN.out]; omega) hin)
    have hbd := twiceTo_bd hin l.length (Nat.le_refl _)
    have hb2 : twice l ≤ 100000000000000 := by unfold twice; omega
    rw [if_pos ho, ho]
    rw [ho] at HC
    generalize twice l = T at *
    clear ho h hin hbd
    go_enter Try.func20, Try.ntmps20
    go_wp2_with fail
    refine HC.out.mono ?_
    rintro e w1 ⟨hb, rfl⟩
    have HB := Lib.hid hb
    clear hb
    go_wp2_with fail
    refine (HAR.out _ (H.out _ HB.out)).mono ?_
    rintro e w2 ⟨hb2, rfl⟩
    go_wp2
    go_ret2
    have hb := HB.out
    exact ⟨(by repeat (first | with_reducible exact Below.refl _ _ | with_reducible assumption | with_reducible refine Below.drew ?_ | with_reducible refine Below.drewN ?_ _ | with_reducible refine Below.alloc2 ?_ _ | with_reducible refine Below.alloc ?_ (by first | omega | (simp <;> omega)) _ | with_reducible refine Below.setCell ?_ (by first | omega | (simp <;> omega)) _ | with_reducible refine Below.step2 (by with_reducible assumption) ?_ | with_reducible refine Below.step (by with_reducible assumption) ?_ (by first | omega | (simp <;> omega)))), rfl⟩
  · rw [if_neg ho]
    have hne : (outErr l != 0) = true := by simpa using ho
    generalize outErr l = E at *
    clear h ho
    go_enter Try.func20, Try.ntmps20
    go_wp2_with fail
    refine HC.out.mono ?_
    rintro e w1 ⟨hb, rfl⟩
    go_wp2
    go_ret2
    exact ⟨(by repeat (first | with_reducible exact Below.refl _ _ | with_reducible assumption | with_reducible refine Below.drew ?_ | with_reducible refine Below.drewN ?_ _ | with_reducible refine Below.alloc2 ?_ _ | with_reducible refine Below.alloc ?_ (by first | omega | (simp <;> omega)) _ | with_reducible refine Below.setCell ?_ (by first | omega | (simp <;> omega)) _ | with_reducible refine Below.step2 (by with_reducible assumption) ?_ | with_reducible refine Below.step (by with_reducible assumption) ?_ (by first | omega | (simp <;> omega)))), rfl⟩

set_option maxHeartbeats 1000000 in
theorem corners_any (A : Option Addr) (n c : Nat) (l : List (Int × Int)) (w : World) (h : Pts w w.heap.size A n c l) :
    Calls Try.prog 23 #[.slice A n c] w fun e w' => Below w.heap.size w w' ∧ ∃ A' n' c', e = .returned (.tuple #[.slice A' n' c', .int .i64 (outErr l)]) ∧ Nums w' w'.heap.size A' n' c' (if outErr l = 0 then bends (sides l) else []) := by
  have HLEN := Lib.hid h.len
  have H : Hid (∀ w', Below w.heap.size w w' → Pts w' w'.heap.size A n c l) := fun w' hb => h.below hb (Nat.le_refl _) hb.size
  have HC := Lib.hid (checkOutline_any A n c l w h)
  by_cases ho : outErr l = 0
  · obtain ⟨h4, h40, hin, -, -, hT⟩ := outErr_ok ho
    have HS := Lib.hid (fun (W : World) (hp : Pts W W.heap.size A n c l) => sides_any A n c l W hp hin (by rw [← HLEN.out]; omega))
    have HBE := Lib.hid (fun (A1 : Option Addr) (W : World) (hw : Walls W W.heap.size A1 n n (sides l)) => bends_any A1 n n (sides l) W hw (by rw [← HLEN.out]; omega) (fun k hk => sides_dir (by rw [HLEN.out]; exact hk)))
    rw [if_pos ho, ho]
    rw [ho] at HC
    clear ho h hin
    go_enter Try.func23, Try.ntmps23
    go_wp2_with fail
    refine HC.out.mono ?_
    rintro e w1 ⟨hb, rfl⟩
    have HB := Lib.hid hb
    clear hb
    go_wp2_with fail
    refine (HS.out _ (H.out _ HB.out)).mono ?_
    rintro e w2 ⟨hb2, A2, rfl, hw2⟩
    have HB2 := Lib.hid hb2
    clear hb2
    go_wp2_with fail
    refine (HBE.out A2 _ hw2).mono ?_
    rintro e w3 ⟨hb3, A3, rfl, hn3⟩
    have HB3 := Lib.hid hb3
    have HN3 := Lib.hid hn3
    clear hb3 hn3
    go_wp2
    go_ret2
    have hb := HB.out
    have hb2 := HB2.out
    have hb3 := HB3.out
    have hz := hb.size
    have hz2 := hb2.size
    have hz3 := hb3.size
    exact ⟨(by repeat (first | with_reducible exact Below.refl _ _ | with_reducible assumption | with_reducible refine Below.drew ?_ | with_reducible refine Below.drewN ?_ _ | with_reducible refine Below.alloc2 ?_ _ | with_reducible refine Below.alloc ?_ (by first | omega | (simp <;> omega)) _ | with_reducible refine Below.setCell ?_ (by first | omega | (simp <;> omega)) _ | with_reducible refine Below.step2 (by with_reducible assumption) ?_ | with_reducible refine Below.step (by with_reducible assumption) ?_ (by first | omega | (simp <;> omega)))), A3, n, n, rfl, HN3.out⟩
  · rw [if_neg ho]
    have hne : (outErr l != 0) = true := by simpa using ho
    generalize outErr l = E at *
    clear h ho
    go_enter Try.func23, Try.ntmps23
    go_wp2_with fail
    refine HC.out.mono ?_
    rintro e w1 ⟨hb, rfl⟩
    go_wp2
    go_ret2
    exact ⟨(by repeat (first | with_reducible exact Below.refl _ _ | with_reducible assumption | with_reducible refine Below.drew ?_ | with_reducible refine Below.drewN ?_ _ | with_reducible refine Below.alloc2 ?_ _ | with_reducible refine Below.alloc ?_ (by first | omega | (simp <;> omega)) _ | with_reducible refine Below.setCell ?_ (by first | omega | (simp <;> omega)) _ | with_reducible refine Below.step2 (by with_reducible assumption) ?_ | with_reducible refine Below.step (by with_reducible assumption) ?_ (by first | omega | (simp <;> omega)))), none, 0, 0, rfl, ⟨Sl.nil_ _ _ _⟩⟩

set_option maxHeartbeats 1000000 in
theorem walls_any (A : Option Addr) (n c : Nat) (l : List (Int × Int)) (w : World) (h : Pts w w.heap.size A n c l) :
    Calls Try.prog 22 #[.slice A n c] w fun e w' => Below w.heap.size w w' ∧ ∃ A' n' c', e = .returned (.tuple #[.slice A' n' c', .int .i64 (outErr l)]) ∧ Walls w' w'.heap.size A' n' c' (if outErr l = 0 then sides l else []) := by
  have HLEN := Lib.hid h.len
  have H : Hid (∀ w', Below w.heap.size w w' → Pts w' w'.heap.size A n c l) := fun w' hb => h.below hb (Nat.le_refl _) hb.size
  have HC := Lib.hid (checkOutline_any A n c l w h)
  by_cases ho : outErr l = 0
  · obtain ⟨h4, h40, hin, -, -, hT⟩ := outErr_ok ho
    have HS := Lib.hid (fun (W : World) (hp : Pts W W.heap.size A n c l) => sides_any A n c l W hp hin (by rw [← HLEN.out]; omega))
    rw [if_pos ho, ho]
    rw [ho] at HC
    clear ho h hin
    go_enter Try.func22, Try.ntmps22
    go_wp2_with fail
    refine HC.out.mono ?_
    rintro e w1 ⟨hb, rfl⟩
    have HB := Lib.hid hb
    clear hb
    go_wp2_with fail
    refine (HS.out _ (H.out _ HB.out)).mono ?_
    rintro e w2 ⟨hb2, A2, rfl, hw2⟩
    have HB2 := Lib.hid hb2
    have HW2 := Lib.hid hw2
    clear hb2 hw2
    go_wp2
    go_ret2
    have hb := HB.out
    have hb2 := HB2.out
    have hz := hb.size
    have hz2 := hb2.size
    exact ⟨(by repeat (first | with_reducible exact Below.refl _ _ | with_reducible assumption | with_reducible refine Below.drew ?_ | with_reducible refine Below.drewN ?_ _ | with_reducible refine Below.alloc2 ?_ _ | with_reducible refine Below.alloc ?_ (by first | omega | (simp <;> omega)) _ | with_reducible refine Below.setCell ?_ (by first | omega | (simp <;> omega)) _ | with_reducible refine Below.step2 (by with_reducible assumption) ?_ | with_reducible refine Below.step (by with_reducible assumption) ?_ (by first | omega | (simp <;> omega)))), A2, n, n, rfl, HW2.out⟩
  · rw [if_neg ho]
    have hne : (outErr l != 0) = true := by simpa using ho
    generalize outErr l = E at *
    clear h ho
    go_enter Try.func22, Try.ntmps22
    go_wp2_with fail
    refine HC.out.mono ?_
    rintro e w1 ⟨hb, rfl⟩
    go_wp2
    go_ret2
    exact ⟨(by repeat (first | with_reducible exact Below.refl _ _ | with_reducible assumption | with_reducible refine Below.drew ?_ | with_reducible refine Below.drewN ?_ _ | with_reducible refine Below.alloc2 ?_ _ | with_reducible refine Below.alloc ?_ (by first | omega | (simp <;> omega)) _ | with_reducible refine Below.setCell ?_ (by first | omega | (simp <;> omega)) _ | with_reducible refine Below.step2 (by with_reducible assumption) ?_ | with_reducible refine Below.step (by with_reducible assumption) ?_ (by first | omega | (simp <;> omega)))), none, 0, 0, rfl, ⟨Sl.nil_ _ _ _⟩⟩

end Go.Proofs.Ytbfbjpnmgcpjlaa
