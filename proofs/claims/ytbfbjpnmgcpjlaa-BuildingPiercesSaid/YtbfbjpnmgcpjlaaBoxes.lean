/- Two boxes: Overlap, Common of both sides. -/
import Derived.Test.YtbfbjpnmgcpjlaaBox
import Derived.Lib.MinMax
import Derived.Laws.StructEq
namespace Go.Proofs.Ytbfbjpnmgcpjlaa
open Go.RowKit

/-- The error of two boxes. -/
def boxesErr (e f : Int) : Int := if e = 0 then f else e

set_option maxHeartbeats 400000 in
theorem boxesError_any (x1 y1 z1 x2 y2 z2 u1 v1 t1 u2 v2 t2 : Int) (w : World) :
    Calls Try.prog 43 #[.agg #[.int .i64 x1, .int .i64 y1, .int .i64 z1, .int .i64 x2, .int .i64 y2, .int .i64 z2], .agg #[.int .i64 u1, .int .i64 v1, .int .i64 t1, .int .i64 u2, .int .i64 v2, .int .i64 t2]] w fun e w' => Below w.heap.size w w' ∧ e = .returned (.int .i64 (boxesErr (boxErr x1 y1 z1 x2 y2 z2) (boxErr u1 v1 t1 u2 v2 t2))) := by
  have c1 := fun W : World => checkBox_any x1 y1 z1 x2 y2 z2 W
  have c2 := fun W : World => checkBox_any u1 v1 t1 u2 v2 t2 W
  generalize (boxErr x1 y1 z1 x2 y2 z2) = E at *
  generalize (boxErr u1 v1 t1 u2 v2 t2) = F at *
  have C1 := Lib.hid c1
  have C2 := Lib.hid c2
  clear c1 c2
  by_cases h : E = 0
  · subst h
    go_enter Try.func43, Try.ntmps43
    go_wp2_with fail
    refine (C1.out _).mono ?_
    rintro e w1 ⟨hb, rfl⟩
    obtain ⟨hc, hf⟩ := bcell hb
    have hz := hb.size
    simp at hz
    go_wp2_with fail
    refine (C2.out _).mono ?_
    rintro e w2 ⟨hb2, rfl⟩
    go_wp2
    go_ret
    exact ⟨(Below.trans (by repeat (first | exact Below.refl _ _ | assumption | refine Below.drew ?_ | refine Below.drewN ?_ _ | refine Below.alloc ?_ (by simp <;> omega) _ | refine Below.setCell ?_ (by simp <;> omega) _)) (hb.mono (by simp; omega))).trans (hb2.mono (by omega)), rfl⟩
  · have hne : (E != 0) = true := by simpa using h
    have HE : Hid (boxesErr E F = E) := by unfold boxesErr; exact if_neg h
    clear h
    go_enter Try.func43, Try.ntmps43
    go_wp2_with fail
    refine (C1.out _).mono ?_
    rintro e w1 ⟨hb, rfl⟩
    go_wp2
    go_ret
    exact ⟨Below.trans (by repeat (first | exact Below.refl _ _ | assumption | refine Below.drew ?_ | refine Below.drewN ?_ _ | refine Below.alloc ?_ (by simp <;> omega) _ | refine Below.setCell ?_ (by simp <;> omega) _)) (hb.mono (by simp; omega)), ret_int HE.out.symm⟩

set_option maxHeartbeats 400000 in
theorem common_any (x1 y1 z1 x2 y2 z2 u1 v1 t1 u2 v2 t2 : Int) (w : World) :
    Calls Try.prog 44 #[.agg #[.int .i64 x1, .int .i64 y1, .int .i64 z1, .int .i64 x2, .int .i64 y2, .int .i64 z2], .agg #[.int .i64 u1, .int .i64 v1, .int .i64 t1, .int .i64 u2, .int .i64 v2, .int .i64 t2]] w fun e w' => Below w.heap.size w w' ∧ e = .returned (.agg #[.int .i64 (max x1 u1), .int .i64 (max y1 v1), .int .i64 (max z1 t1), .int .i64 (min x2 u2), .int .i64 (min y2 v2), .int .i64 (min z2 t2)]) := by
  go_enter Try.func44, Try.ntmps44
  go_wp2
  refine bodyPost_ret (v := .agg #[.int .i64 (max x1 u1), .int .i64 (max y1 v1), .int .i64 (max z1 t1), .int .i64 (min x2 u2), .int .i64 (min y2 v2), .int .i64 (min z2 t2)]) (by simp [results, Try.results44, go_sem]) rfl ⟨(by repeat (first | exact Below.refl _ _ | assumption | refine Below.drew ?_ | refine Below.drewN ?_ _ | refine Below.alloc ?_ (by simp <;> omega) _ | refine Below.setCell ?_ (by simp <;> omega) _)), rfl⟩

/-- The error of what two boxes have in common. -/
def bothErr (x1 y1 z1 x2 y2 z2 u1 v1 t1 u2 v2 t2 : Int) : Int := boxErr (max x1 u1) (max y1 v1) (max z1 t1) (min x2 u2) (min y2 v2) (min z2 t2)

set_option maxHeartbeats 400000 in
theorem overlap_any (x1 y1 z1 x2 y2 z2 u1 v1 t1 u2 v2 t2 : Int) (w : World) :
    Calls Try.prog 11 #[.agg #[.int .i64 x1, .int .i64 y1, .int .i64 z1, .int .i64 x2, .int .i64 y2, .int .i64 z2], .agg #[.int .i64 u1, .int .i64 v1, .int .i64 t1, .int .i64 u2, .int .i64 v2, .int .i64 t2]] w fun e w' => Below w.heap.size w w' ∧
      e = .returned (.tuple #[.bool (boxesErr (boxErr x1 y1 z1 x2 y2 z2) (boxErr u1 v1 t1 u2 v2 t2) == 0 && bothErr x1 y1 z1 x2 y2 z2 u1 v1 t1 u2 v2 t2 == 0), .int .i64 (boxesErr (boxErr x1 y1 z1 x2 y2 z2) (boxErr u1 v1 t1 u2 v2 t2))]) := by
  have c1 := fun W : World => boxesError_any x1 y1 z1 x2 y2 z2 u1 v1 t1 u2 v2 t2 W
  have c2 := fun W : World => common_any x1 y1 z1 x2 y2 z2 u1 v1 t1 u2 v2 t2 W
  have c3 := fun W : World => checkBox_any (max x1 u1) (max y1 v1) (max z1 t1) (min x2 u2) (min y2 v2) (min z2 t2) W
  have e3 : bothErr x1 y1 z1 x2 y2 z2 u1 v1 t1 u2 v2 t2 = boxErr (max x1 u1) (max y1 v1) (max z1 t1) (min x2 u2) (min y2 v2) (min z2 t2) := rfl
  rw [← e3] at c3
  clear e3
  generalize bothErr x1 y1 z1 x2 y2 z2 u1 v1 t1 u2 v2 t2 = K at *
  generalize boxesErr (boxErr x1 y1 z1 x2 y2 z2) (boxErr u1 v1 t1 u2 v2 t2) = E at *
  have C1 := Lib.hid c1
  have C2 := Lib.hid c2
  have C3 := Lib.hid c3
  clear c1 c2 c3
  by_cases h : E = 0
  · subst h
    go_enter Try.func11, Try.ntmps11
    go_wp2_with fail
    refine (C1.out _).mono ?_
    rintro e w1 ⟨hb1, rfl⟩; obtain ⟨hc1, hf1⟩ := bcell hb1; have hz1 := hb1.size; (try simp at hz1)
    go_wp2_with fail
    refine (C2.out _).mono ?_
    rintro e w2 ⟨hb2, rfl⟩; obtain ⟨hc2, hf2⟩ := bcell hb2; have hz2 := hb2.size; (try simp at hz2)
    go_wp2_with fail
    refine (C3.out _).mono ?_
    rintro e w3 ⟨hb3, rfl⟩; obtain ⟨hc3, hf3⟩ := bcell hb3; have hz3 := hb3.size; (try simp at hz3)
    go_wp2
    go_ret2
    exact ⟨(by repeat (first | with_reducible exact Below.refl _ _ | with_reducible assumption | with_reducible refine Below.drew ?_ | with_reducible refine Below.drewN ?_ _ | with_reducible refine Below.alloc2 ?_ _ | with_reducible refine Below.alloc ?_ (by first | omega | (simp <;> omega)) _ | with_reducible refine Below.setCell ?_ (by first | omega | (simp <;> omega)) _ | with_reducible refine Below.step2 (by with_reducible assumption) ?_ | with_reducible refine Below.step (by with_reducible assumption) ?_ (by first | omega | (simp <;> omega)))), by simp⟩
  · have hne : (E != 0) = true := by simpa using h
    have HE : Hid ((E == 0 && K == 0) = false) := Lib.hid (by rw [Bool.eq_false_iff]; simpa using fun a b => h a)
    clear h
    go_enter Try.func11, Try.ntmps11
    go_wp2_with fail
    refine (C1.out _).mono ?_
    rintro e w1 ⟨hb, rfl⟩
    go_wp2
    go_ret2
    exact ⟨Below.trans (by repeat (first | exact Below.refl _ _ | assumption | refine Below.drew ?_ | refine Below.drewN ?_ _ | refine Below.alloc ?_ (by simp <;> omega) _ | refine Below.setCell ?_ (by simp <;> omega) _)) (hb.mono (by simp; omega)), by rw [HE.out]; rfl⟩

set_option maxHeartbeats 1000000 in
theorem Common_any (x1 y1 z1 x2 y2 z2 u1 v1 t1 u2 v2 t2 : Int) (w : World) :
    Calls Try.prog 12 #[.agg #[.int .i64 x1, .int .i64 y1, .int .i64 z1, .int .i64 x2, .int .i64 y2, .int .i64 z2], .agg #[.int .i64 u1, .int .i64 v1, .int .i64 t1, .int .i64 u2, .int .i64 v2, .int .i64 t2]] w fun e w' => Below w.heap.size w w' ∧
      e = .returned (if boxesErr (boxErr x1 y1 z1 x2 y2 z2) (boxErr u1 v1 t1 u2 v2 t2) = 0 then (if bothErr x1 y1 z1 x2 y2 z2 u1 v1 t1 u2 v2 t2 = 0 then .tuple #[.agg #[.int .i64 (max x1 u1), .int .i64 (max y1 v1), .int .i64 (max z1 t1), .int .i64 (min x2 u2), .int .i64 (min y2 v2), .int .i64 (min z2 t2)], .int .i64 0] else .tuple #[.agg #[.int .i64 0, .int .i64 0, .int .i64 0, .int .i64 0, .int .i64 0, .int .i64 0], .int .i64 27])
        else .tuple #[.agg #[.int .i64 0, .int .i64 0, .int .i64 0, .int .i64 0, .int .i64 0, .int .i64 0], .int .i64 (boxesErr (boxErr x1 y1 z1 x2 y2 z2) (boxErr u1 v1 t1 u2 v2 t2))]) := by
  have c1 := fun W : World => boxesError_any x1 y1 z1 x2 y2 z2 u1 v1 t1 u2 v2 t2 W
  have c2 := fun W : World => common_any x1 y1 z1 x2 y2 z2 u1 v1 t1 u2 v2 t2 W
  have c3 := fun W : World => checkBox_any (max x1 u1) (max y1 v1) (max z1 t1) (min x2 u2) (min y2 v2) (min z2 t2) W
  have e3 : bothErr x1 y1 z1 x2 y2 z2 u1 v1 t1 u2 v2 t2 = boxErr (max x1 u1) (max y1 v1) (max z1 t1) (min x2 u2) (min y2 v2) (min z2 t2) := rfl
  rw [← e3] at c3
  clear e3
  generalize bothErr x1 y1 z1 x2 y2 z2 u1 v1 t1 u2 v2 t2 = K at *
  generalize boxesErr (boxErr x1 y1 z1 x2 y2 z2) (boxErr u1 v1 t1 u2 v2 t2) = E at *
  have C1 := Lib.hid c1
  have C2 := Lib.hid c2
  have C3 := Lib.hid c3
  clear c1 c2 c3
  by_cases h : E = 0
  · subst h
    rw [if_pos rfl]
    by_cases hk : K = 0
    · subst hk
      rw [if_pos rfl]
      go_enter Try.func12, Try.ntmps12
      go_wp2_with fail
      refine (C1.out _).mono ?_
      rintro e w1 ⟨hb1, rfl⟩; obtain ⟨hc1, hf1⟩ := bcell hb1; have hz1 := hb1.size; (try simp at hz1)
      go_wp2_with fail
      refine (C2.out _).mono ?_
      rintro e w2 ⟨hb2, rfl⟩; obtain ⟨hc2, hf2⟩ := bcell hb2; have hz2 := hb2.size; (try simp at hz2)
      go_wp2_with fail
      refine (C3.out _).mono ?_
      rintro e w3 ⟨hb3, rfl⟩; obtain ⟨hc3, hf3⟩ := bcell hb3; have hz3 := hb3.size; (try simp at hz3)
      have hk : Bk w3 (w.heap.size + 1 + 1) 23 #[.int .i64 0, .int .i64 0, .int .i64 0, .int .i64 0, .int .i64 0, .int .i64 0] := (by repeat (first | with_reducible assumption | with_reducible exact Bk.at_ (by simp) | with_reducible refine Bk.alloc ?_ _ | with_reducible refine Bk.drew ?_ | with_reducible refine Bk.drewN ?_ _ | with_reducible refine Bk.step (by with_reducible assumption) ?_ (by first | omega | (simp <;> omega))))
      obtain ⟨⟨_, _, _, _, _, _⟩, _, _, _, _, _, _⟩ := hk.six
      go_wp2
      refine bodyPost_ret (v := .tuple #[.agg #[.int .i64 (max x1 u1), .int .i64 (max y1 v1), .int .i64 (max z1 t1), .int .i64 (min x2 u2), .int .i64 (min y2 v2), .int .i64 (min z2 t2)], .int .i64 0]) (by simp [results, Try.results12, go_sem, *]) rfl ⟨(by repeat (first | with_reducible exact Below.refl _ _ | with_reducible assumption | with_reducible refine Below.drew ?_ | with_reducible refine Below.drewN ?_ _ | with_reducible refine Below.alloc2 ?_ _ | with_reducible refine Below.alloc ?_ (by first | omega | (simp <;> omega)) _ | with_reducible refine Below.setCell ?_ (by first | omega | (simp <;> omega)) _ | with_reducible refine Below.step2 (by with_reducible assumption) ?_ | with_reducible refine Below.step (by with_reducible assumption) ?_ (by first | omega | (simp <;> omega)))), rfl⟩
    · have hk2 : (K == 0) = false := by simpa using hk
      rw [if_neg hk]
      clear hk
      go_enter Try.func12, Try.ntmps12
      go_wp2_with fail
      refine (C1.out _).mono ?_
      rintro e w1 ⟨hb1, rfl⟩; obtain ⟨hc1, hf1⟩ := bcell hb1; have hz1 := hb1.size; (try simp at hz1)
      go_wp2_with fail
      refine (C2.out _).mono ?_
      rintro e w2 ⟨hb2, rfl⟩; obtain ⟨hc2, hf2⟩ := bcell hb2; have hz2 := hb2.size; (try simp at hz2)
      go_wp2_with fail
      refine (C3.out _).mono ?_
      rintro e w3 ⟨hb3, rfl⟩; obtain ⟨hc3, hf3⟩ := bcell hb3; have hz3 := hb3.size; (try simp at hz3)
      have hk : Bk w3 (w.heap.size + 1 + 1) 23 #[.int .i64 0, .int .i64 0, .int .i64 0, .int .i64 0, .int .i64 0, .int .i64 0] := (by repeat (first | with_reducible assumption | with_reducible exact Bk.at_ (by simp) | with_reducible refine Bk.alloc ?_ _ | with_reducible refine Bk.drew ?_ | with_reducible refine Bk.drewN ?_ _ | with_reducible refine Bk.step (by with_reducible assumption) ?_ (by first | omega | (simp <;> omega))))
      obtain ⟨⟨_, _, _, _, _, _⟩, _, _, _, _, _, _⟩ := hk.six
      go_wp2
      refine bodyPost_ret (v := .tuple #[.agg #[.int .i64 0, .int .i64 0, .int .i64 0, .int .i64 0, .int .i64 0, .int .i64 0], .int .i64 27]) (by simp [results, Try.results12, go_sem, *]) rfl ⟨(by repeat (first | with_reducible exact Below.refl _ _ | with_reducible assumption | with_reducible refine Below.drew ?_ | with_reducible refine Below.drewN ?_ _ | with_reducible refine Below.alloc2 ?_ _ | with_reducible refine Below.alloc ?_ (by first | omega | (simp <;> omega)) _ | with_reducible refine Below.setCell ?_ (by first | omega | (simp <;> omega)) _ | with_reducible refine Below.step2 (by with_reducible assumption) ?_ | with_reducible refine Below.step (by with_reducible assumption) ?_ (by first | omega | (simp <;> omega)))), rfl⟩
  · have hne : (E != 0) = true := by simpa using h
    rw [if_neg h]
    clear h
    go_enter Try.func12, Try.ntmps12
    go_wp2_with fail
    refine (C1.out _).mono ?_
    rintro e w1 ⟨hb1, rfl⟩; obtain ⟨hc1, hf1⟩ := bcell hb1; have hz1 := hb1.size; (try simp at hz1)
    have hk : Bk w1 (w.heap.size + 1 + 1) 23 #[.int .i64 0, .int .i64 0, .int .i64 0, .int .i64 0, .int .i64 0, .int .i64 0] := (by repeat (first | with_reducible assumption | with_reducible exact Bk.at_ (by simp) | with_reducible refine Bk.alloc ?_ _ | with_reducible refine Bk.drew ?_ | with_reducible refine Bk.drewN ?_ _ | with_reducible refine Bk.step (by with_reducible assumption) ?_ (by first | omega | (simp <;> omega))))
    obtain ⟨⟨_, _, _, _, _, _⟩, _, _, _, _, _, _⟩ := hk.six
    go_wp2
    refine bodyPost_ret (v := .tuple #[.agg #[.int .i64 0, .int .i64 0, .int .i64 0, .int .i64 0, .int .i64 0, .int .i64 0], .int .i64 E]) (by simp [results, Try.results12, go_sem, *]) rfl ⟨(by repeat (first | with_reducible exact Below.refl _ _ | with_reducible assumption | with_reducible refine Below.drew ?_ | with_reducible refine Below.drewN ?_ _ | with_reducible refine Below.alloc2 ?_ _ | with_reducible refine Below.alloc ?_ (by first | omega | (simp <;> omega)) _ | with_reducible refine Below.setCell ?_ (by first | omega | (simp <;> omega)) _ | with_reducible refine Below.step2 (by with_reducible assumption) ?_ | with_reducible refine Below.step (by with_reducible assumption) ?_ (by first | omega | (simp <;> omega)))), rfl⟩

/-- What ref.Common tells of two boxes. -/
def hollow (x1 y1 z1 x2 y2 z2 u1 v1 t1 u2 v2 t2 : Int) : Bool := decide (min x2 u2 ≤ max x1 u1 ∨ min y2 v2 ≤ max y1 v1 ∨ min z2 t2 ≤ max z1 t1)

set_option maxHeartbeats 1000000 in
theorem refCommon_any (x1 y1 z1 x2 y2 z2 u1 v1 t1 u2 v2 t2 : Int) (w : World) :
    Calls Try.prog 15 #[.agg #[.int .i64 x1, .int .i64 y1, .int .i64 z1, .int .i64 x2, .int .i64 y2, .int .i64 z2], .agg #[.int .i64 u1, .int .i64 v1, .int .i64 t1, .int .i64 u2, .int .i64 v2, .int .i64 t2]] w fun e w' => Below w.heap.size w w' ∧
      e = .returned (if hollow x1 y1 z1 x2 y2 z2 u1 v1 t1 u2 v2 t2 = true then .tuple #[.agg #[.int .i64 0, .int .i64 0, .int .i64 0, .int .i64 0, .int .i64 0, .int .i64 0], .bool false] else .tuple #[.agg #[.int .i64 (max x1 u1), .int .i64 (max y1 v1), .int .i64 (max z1 t1), .int .i64 (min x2 u2), .int .i64 (min y2 v2), .int .i64 (min z2 t2)], .bool true]) := by
  rcases Int.lt_or_le (max x1 u1) (min x2 u2) with h1 | h1
  · rcases Int.lt_or_le (max y1 v1) (min y2 v2) with h2 | h2
    · rcases Int.lt_or_le (max z1 t1) (min z2 t2) with h3 | h3
      · rw [if_neg (by unfold hollow; simp only [decide_eq_true_eq]; omega)]
        go_enter Try.func15, Try.ntmps15
        go_wp2
        refine bodyPost_ret (v := .tuple #[.agg #[.int .i64 (max x1 u1), .int .i64 (max y1 v1), .int .i64 (max z1 t1), .int .i64 (min x2 u2), .int .i64 (min y2 v2), .int .i64 (min z2 t2)], .bool true]) (by simp [results, Try.results15, go_sem]) rfl ⟨(by repeat (first | with_reducible exact Below.refl _ _ | with_reducible assumption | with_reducible refine Below.drew ?_ | with_reducible refine Below.drewN ?_ _ | with_reducible refine Below.alloc2 ?_ _ | with_reducible refine Below.alloc ?_ (by first | omega | (simp <;> omega)) _ | with_reducible refine Below.setCell ?_ (by first | omega | (simp <;> omega)) _ | with_reducible refine Below.step2 (by with_reducible assumption) ?_ | with_reducible refine Below.step (by with_reducible assumption) ?_ (by first | omega | (simp <;> omega)))), rfl⟩
      · rw [if_pos (by unfold hollow; simp only [decide_eq_true_eq]; omega)]
        go_enter Try.func15, Try.ntmps15
        go_wp2
        refine bodyPost_ret (v := .tuple #[.agg #[.int .i64 0, .int .i64 0, .int .i64 0, .int .i64 0, .int .i64 0, .int .i64 0], .bool false]) (by simp [results, Try.results15, go_sem]) rfl ⟨(by repeat (first | with_reducible exact Below.refl _ _ | with_reducible assumption | with_reducible refine Below.drew ?_ | with_reducible refine Below.drewN ?_ _ | with_reducible refine Below.alloc2 ?_ _ | with_reducible refine Below.alloc ?_ (by first | omega | (simp <;> omega)) _ | with_reducible refine Below.setCell ?_ (by first | omega | (simp <;> omega)) _ | with_reducible refine Below.step2 (by with_reducible assumption) ?_ | with_reducible refine Below.step (by with_reducible assumption) ?_ (by first | omega | (simp <;> omega)))), rfl⟩
    · rw [if_pos (by unfold hollow; simp only [decide_eq_true_eq]; omega)]
      go_enter Try.func15, Try.ntmps15
      go_wp2
      refine bodyPost_ret (v := .tuple #[.agg #[.int .i64 0, .int .i64 0, .int .i64 0, .int .i64 0, .int .i64 0, .int .i64 0], .bool false]) (by simp [results, Try.results15, go_sem]) rfl ⟨(by repeat (first | with_reducible exact Below.refl _ _ | with_reducible assumption | with_reducible refine Below.drew ?_ | with_reducible refine Below.drewN ?_ _ | with_reducible refine Below.alloc2 ?_ _ | with_reducible refine Below.alloc ?_ (by first | omega | (simp <;> omega)) _ | with_reducible refine Below.setCell ?_ (by first | omega | (simp <;> omega)) _ | with_reducible refine Below.step2 (by with_reducible assumption) ?_ | with_reducible refine Below.step (by with_reducible assumption) ?_ (by first | omega | (simp <;> omega)))), rfl⟩
  · rw [if_pos (by unfold hollow; simp only [decide_eq_true_eq]; omega)]
    go_enter Try.func15, Try.ntmps15
    go_wp2
    refine bodyPost_ret (v := .tuple #[.agg #[.int .i64 0, .int .i64 0, .int .i64 0, .int .i64 0, .int .i64 0, .int .i64 0], .bool false]) (by simp [results, Try.results15, go_sem]) rfl ⟨(by repeat (first | with_reducible exact Below.refl _ _ | with_reducible assumption | with_reducible refine Below.drew ?_ | with_reducible refine Below.drewN ?_ _ | with_reducible refine Below.alloc2 ?_ _ | with_reducible refine Below.alloc ?_ (by first | omega | (simp <;> omega)) _ | with_reducible refine Below.setCell ?_ (by first | omega | (simp <;> omega)) _ | with_reducible refine Below.step2 (by with_reducible assumption) ?_ | with_reducible refine Below.step (by with_reducible assumption) ?_ (by first | omega | (simp <;> omega)))), rfl⟩

/-- What two boxes have in common lies in the range if they do; it is a box unless it is hollow. -/
theorem bothErr_eq {x1 y1 z1 x2 y2 z2 u1 v1 t1 u2 v2 t2 : Int} (h : boxErr x1 y1 z1 x2 y2 z2 = 0) (k : boxErr u1 v1 t1 u2 v2 t2 = 0) :
    bothErr x1 y1 z1 x2 y2 z2 u1 v1 t1 u2 v2 t2 = if hollow x1 y1 z1 x2 y2 z2 u1 v1 t1 u2 v2 t2 = true then 3 else 0 := by
  have r1 : [x1, y1, z1, x2, y2, z2].all inB = true := by
    rcases e : [x1, y1, z1, x2, y2, z2].all inB
    · rw [boxErr_out e] at h; omega
    · rfl
  have r2 : [u1, v1, t1, u2, v2, t2].all inB = true := by
    rcases e : [u1, v1, t1, u2, v2, t2].all inB
    · rw [boxErr_out e] at k; omega
    · rfl
  have r3 : [max x1 u1, max y1 v1, max z1 t1, min x2 u2, min y2 v2, min z2 t2].all inB = true := by
    simp only [List.all_cons, List.all_nil, Bool.and_true, Bool.and_eq_true, inB_iff] at r1 r2 ⊢
    omega
  unfold bothErr boxErr hollow
  rw [if_pos r3]
  simp only [decide_eq_true_eq]

end Go.Proofs.Ytbfbjpnmgcpjlaa
