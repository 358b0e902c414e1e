/- Boxes: CheckBox of both sides. -/
import Derived.Test.YtbfbjpnmgcpjlaaIn
import Derived.Deep.RegionHeld3
import Derived.Outline
namespace Go.Proofs.Ytbfbjpnmgcpjlaa
open Go.RowKit

/-- The error of a box. -/
def boxErr (x1 y1 z1 x2 y2 z2 : Int) : Int :=
  if [x1, y1, z1, x2, y2, z2].all inB then (if x2 ≤ x1 ∨ y2 ≤ y1 ∨ z2 ≤ z1 then 3 else 0) else 2

set_option maxHeartbeats 400000 in
theorem checkBox_any (x1 y1 z1 x2 y2 z2 : Int) (w : World) :
    Calls Try.prog 14 #[.agg #[.int .i64 x1, .int .i64 y1, .int .i64 z1, .int .i64 x2, .int .i64 y2, .int .i64 z2]] w fun e w' => Below w.heap.size w w' ∧ e = .returned (.int .i64 (boxErr x1 y1 z1 x2 y2 z2)) := by
  have hn := Nums.new (w.alloc (.cells #[.int .i64 x1, .int .i64 y1, .int .i64 z1, .int .i64 x2, .int .i64 y2, .int .i64 z2] 23)) 3 [x1, y1, z1, x2, y2, z2] 6 rfl (by omega) (w.heap.size + 1) (by simp)
  simp only [i64s, List.map] at hn
  have HN := Lib.hid hn
  clear hn
  have hB : ∀ O1 O2 : Obj, Below w.heap.size w ((w.alloc O1).alloc O2) := fun O1 O2 => ((Below.refl _ _).alloc (Nat.le_refl _) _).alloc (by simp) _
  rcases hi : [x1, y1, z1, x2, y2, z2].all inB
  · have he : boxErr x1 y1 z1 x2 y2 z2 = 2 := by unfold boxErr; rw [if_neg (by simp [hi])]
    have HE := Lib.hid he
    have HI := Lib.hid hi
    clear he hi
    go_enter Try.func14, Try.ntmps14
    go_wp2_with (go_at_call 46; refine (inRange_any _ _ _ _ _ _ HN.out).mono ?_; rintro e w' ⟨rfl, rfl⟩; rw [HI.out])
    go_ret
    exact ⟨hB _ _, ret_int HE.out.symm⟩
  · have HI := Lib.hid hi
    have he : boxErr x1 y1 z1 x2 y2 z2 = (if x2 ≤ x1 ∨ y2 ≤ y1 ∨ z2 ≤ z1 then 3 else 0) := by unfold boxErr; rw [if_pos hi]
    have HE := Lib.hid he
    clear he hi
    by_cases h1 : x2 ≤ x1
    · go_enter Try.func14, Try.ntmps14
      go_wp2_with (go_at_call 46; refine (inRange_any _ _ _ _ _ _ HN.out).mono ?_; rintro e w' ⟨rfl, rfl⟩; rw [HI.out])
      go_ret
      exact ⟨hB _ _, ret_int (by rw [HE.out]; first | rw [if_pos (by omega)] | rw [if_neg (by omega)])⟩
    · by_cases h2 : y2 ≤ y1
      · go_enter Try.func14, Try.ntmps14
        go_wp2_with (go_at_call 46; refine (inRange_any _ _ _ _ _ _ HN.out).mono ?_; rintro e w' ⟨rfl, rfl⟩; rw [HI.out])
        go_ret
        exact ⟨hB _ _, ret_int (by rw [HE.out]; first | rw [if_pos (by omega)] | rw [if_neg (by omega)])⟩
      · by_cases h3 : z2 ≤ z1
        · go_enter Try.func14, Try.ntmps14
          go_wp2_with (go_at_call 46; refine (inRange_any _ _ _ _ _ _ HN.out).mono ?_; rintro e w' ⟨rfl, rfl⟩; rw [HI.out])
          go_ret
          exact ⟨hB _ _, ret_int (by rw [HE.out]; first | rw [if_pos (by omega)] | rw [if_neg (by omega)])⟩
        · go_enter Try.func14, Try.ntmps14
          go_wp2_with (go_at_call 46; refine (inRange_any _ _ _ _ _ _ HN.out).mono ?_; rintro e w' ⟨rfl, rfl⟩; rw [HI.out])
          go_ret
          exact ⟨hB _ _, ret_int (by rw [HE.out]; first | rw [if_pos (by omega)] | rw [if_neg (by omega)])⟩

theorem boxErr_out {x1 y1 z1 x2 y2 z2 : Int} (h : [x1, y1, z1, x2, y2, z2].all inB = false) : boxErr x1 y1 z1 x2 y2 z2 = 2 := by unfold boxErr; rw [if_neg (by simp [h])]

set_option maxHeartbeats 1000000 in
theorem refCheckBox_any (x1 y1 z1 x2 y2 z2 : Int) (w : World) :
    Calls Try.prog 13 #[.agg #[.int .i64 x1, .int .i64 y1, .int .i64 z1, .int .i64 x2, .int .i64 y2, .int .i64 z2]] w fun e w' => Below w.heap.size w w' ∧ e = .returned (.int .i64 (boxErr x1 y1 z1 x2 y2 z2)) := by
  have hB : ∀ O1 : Obj, Below w.heap.size w (w.alloc O1) := fun O1 => (Below.refl _ _).alloc (Nat.le_refl _) _
  by_cases h : inB x1 = true ∧ inB y1 = true ∧ inB z1 = true ∧ inB x2 = true ∧ inB y2 = true ∧ inB z2 = true
  · obtain ⟨i1, i2, i3, i4, i5, i6⟩ := h
    have he : boxErr x1 y1 z1 x2 y2 z2 = (if x2 ≤ x1 ∨ y2 ≤ y1 ∨ z2 ≤ z1 then 3 else 0) := by unfold boxErr; rw [if_pos (by simp [i1, i2, i3, i4, i5, i6])]
    have HE := Lib.hid he
    clear he
    by_cases h1 : x2 ≤ x1
    · go_enter Try.func13, Try.ntmps13
      go_wp2_with (go_at_call 45; refine (in_any _ _).mono ?_; rintro e w' ⟨rfl, rfl⟩)
      go_ret
      exact ⟨hB _, ret_int (by rw [HE.out]; first | rw [if_pos (by omega)] | rw [if_neg (by omega)])⟩
    · by_cases h2 : y2 ≤ y1
      · go_enter Try.func13, Try.ntmps13
        go_wp2_with (go_at_call 45; refine (in_any _ _).mono ?_; rintro e w' ⟨rfl, rfl⟩)
        go_ret
        exact ⟨hB _, ret_int (by rw [HE.out]; first | rw [if_pos (by omega)] | rw [if_neg (by omega)])⟩
      · by_cases h3 : z2 ≤ z1
        · go_enter Try.func13, Try.ntmps13
          go_wp2_with (go_at_call 45; refine (in_any _ _).mono ?_; rintro e w' ⟨rfl, rfl⟩)
          go_ret
          exact ⟨hB _, ret_int (by rw [HE.out]; first | rw [if_pos (by omega)] | rw [if_neg (by omega)])⟩
        · go_enter Try.func13, Try.ntmps13
          go_wp2_with (go_at_call 45; refine (in_any _ _).mono ?_; rintro e w' ⟨rfl, rfl⟩)
          go_ret
          exact ⟨hB _, ret_int (by rw [HE.out]; first | rw [if_pos (by omega)] | rw [if_neg (by omega)])⟩
  · have he : boxErr x1 y1 z1 x2 y2 z2 = 2 := boxErr_out (by
      rw [Bool.eq_false_iff]; intro hh; apply h; simpa using hh)
    have HE := Lib.hid he
    clear he
    rcases i1 : inB x1
    · go_enter Try.func13, Try.ntmps13
      go_wp2_with (go_at_call 45; refine (in_any _ _).mono ?_; rintro e w' ⟨rfl, rfl⟩)
      go_ret
      exact ⟨hB _, ret_int HE.out.symm⟩
    · rcases i2 : inB y1
      · go_enter Try.func13, Try.ntmps13
        go_wp2_with (go_at_call 45; refine (in_any _ _).mono ?_; rintro e w' ⟨rfl, rfl⟩)
        go_ret
        exact ⟨hB _, ret_int HE.out.symm⟩
      · rcases i3 : inB z1
        · go_enter Try.func13, Try.ntmps13
          go_wp2_with (go_at_call 45; refine (in_any _ _).mono ?_; rintro e w' ⟨rfl, rfl⟩)
          go_ret
          exact ⟨hB _, ret_int HE.out.symm⟩
        · rcases i4 : inB x2
          · go_enter Try.func13, Try.ntmps13
            go_wp2_with (go_at_call 45; refine (in_any _ _).mono ?_; rintro e w' ⟨rfl, rfl⟩)
            go_ret
            exact ⟨hB _, ret_int HE.out.symm⟩
          · rcases i5 : inB y2
            · go_enter Try.func13, Try.ntmps13
              go_wp2_with (go_at_call 45; refine (in_any _ _).mono ?_; rintro e w' ⟨rfl, rfl⟩)
              go_ret
              exact ⟨hB _, ret_int HE.out.symm⟩
            · rcases i6 : inB z2
              · go_enter Try.func13, Try.ntmps13
                go_wp2_with (go_at_call 45; refine (in_any _ _).mono ?_; rintro e w' ⟨rfl, rfl⟩)
                go_ret
                exact ⟨hB _, ret_int HE.out.symm⟩
              · exact absurd ⟨i1, i2, i3, i4, i5, i6⟩ h

end Go.Proofs.Ytbfbjpnmgcpjlaa
