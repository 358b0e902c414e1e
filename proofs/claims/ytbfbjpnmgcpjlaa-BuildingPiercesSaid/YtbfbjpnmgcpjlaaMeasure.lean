/- Walks: measure, span, distance of a place from a side. -/
import Derived.Test.YtbfbjpnmgcpjlaaCheckOut
namespace Go.Proofs.Ytbfbjpnmgcpjlaa
open Go.RowKit

/-- A side whose numbers are within bounds. -/
structure Bds (s : Side) : Prop where
  x1 : -1000000 ≤ s.x1 ∧ s.x1 ≤ 1000000
  y1 : -1000000 ≤ s.y1 ∧ s.y1 ≤ 1000000
  x2 : -1000000 ≤ s.x2 ∧ s.x2 ≤ 1000000
  y2 : -1000000 ≤ s.y2 ∧ s.y2 ≤ 1000000
  len : 0 ≤ s.len ∧ s.len ≤ 4000000

/-- How far a place lies along a side, and to its left. -/
def measP (s : Side) (x y : Int) : Int × Int :=
  if s.dir = 0 then (x - s.x1, y - s.y1) else if s.dir = 1 then (y - s.y1, -(x - s.x1)) else if s.dir = 2 then (-(x - s.x1), -(y - s.y1)) else (-(y - s.y1), x - s.x1)
theorem measP_bd {s : Side} {x y : Int} (hs : Bds s) (hx : -1000000 ≤ x ∧ x ≤ 1000000) (hy : -1000000 ≤ y ∧ y ≤ 1000000) :
    (-2000000 ≤ (measP s x y).1 ∧ (measP s x y).1 ≤ 2000000) ∧ -2000000 ≤ (measP s x y).2 ∧ (measP s x y).2 ≤ 2000000 := by
  have := hs.x1
  have := hs.y1
  unfold measP
  repeat' split
  all_goals simp only; omega

set_option maxHeartbeats 2000000 in
theorem measure_any (x1 y1 x2 y2 len dir x y : Int) (w : World) (hs : Bds ⟨x1, y1, x2, y2, len, dir⟩) (hx : -1000000 ≤ x ∧ x ≤ 1000000) (hy : -1000000 ≤ y ∧ y ≤ 1000000) :
    Calls Try.prog 78 #[.agg #[.int .i64 x1, .int .i64 y1, .int .i64 x2, .int .i64 y2, .int .i64 len, .int .i64 dir], .agg #[.int .i64 x, .int .i64 y]] w
      fun e w' => Below w.heap.size w w' ∧ e = .returned (.tuple #[.int .i64 (measP ⟨x1, y1, x2, y2, len, dir⟩ x y).1, .int .i64 (measP ⟨x1, y1, x2, y2, len, dir⟩ x y).2]) := by
  obtain ⟨⟨b1, b2⟩, ⟨b3, b4⟩, -, -, -⟩ := hs
  obtain ⟨a1, a2⟩ := hx
  obtain ⟨a3, a4⟩ := hy
  simp only at b1 b2 b3 b4
  by_cases h0 : dir = 0
  · have he : measP ⟨x1, y1, x2, y2, len, dir⟩ x y = (x - x1, y - y1) := by unfold measP; rw [if_pos h0]
    rw [he]
    clear he
    subst h0
    go_enter Try.func78, Try.ntmps78
    go_wp2
    go_quiet (fail)
    go_wp2
    go_ret2
    exact ⟨(by repeat (first | with_reducible exact Below.refl _ _ | with_reducible assumption | with_reducible refine Below.drew ?_ | with_reducible refine Below.drewN ?_ _ | with_reducible refine Below.alloc2 ?_ _ | with_reducible refine Below.alloc ?_ (by first | omega | (simp <;> omega)) _ | with_reducible refine Below.setCell ?_ (by first | omega | (simp <;> omega)) _ | with_reducible refine Below.step2 (by with_reducible assumption) ?_ | with_reducible refine Below.step (by with_reducible assumption) ?_ (by first | omega | (simp <;> omega)))), rfl⟩
  · have g0 : (dir == 0) = false := by simpa using h0
    by_cases h1 : dir = 1
    · have he : measP ⟨x1, y1, x2, y2, len, dir⟩ x y = (y - y1, -(x - x1)) := by unfold measP; rw [if_neg h0, if_pos h1]
      rw [he]
      clear he
      subst h1
      go_enter Try.func78, Try.ntmps78
      go_wp2
      go_quiet (fail)
      go_wp2
      go_ret2
      exact ⟨(by repeat (first | with_reducible exact Below.refl _ _ | with_reducible assumption | with_reducible refine Below.drew ?_ | with_reducible refine Below.drewN ?_ _ | with_reducible refine Below.alloc2 ?_ _ | with_reducible refine Below.alloc ?_ (by first | omega | (simp <;> omega)) _ | with_reducible refine Below.setCell ?_ (by first | omega | (simp <;> omega)) _ | with_reducible refine Below.step2 (by with_reducible assumption) ?_ | with_reducible refine Below.step (by with_reducible assumption) ?_ (by first | omega | (simp <;> omega)))), rfl⟩
    · have g1 : (dir == 1) = false := by simpa using h1
      by_cases h2 : dir = 2
      · have he : measP ⟨x1, y1, x2, y2, len, dir⟩ x y = (-(x - x1), -(y - y1)) := by unfold measP; rw [if_neg h0, if_neg h1, if_pos h2]
        rw [he]
        clear he
        subst h2
        go_enter Try.func78, Try.ntmps78
        go_wp2
        go_quiet (fail)
        go_wp2
        go_ret2
        exact ⟨(by repeat (first | with_reducible exact Below.refl _ _ | with_reducible assumption | with_reducible refine Below.drew ?_ | with_reducible refine Below.drewN ?_ _ | with_reducible refine Below.alloc2 ?_ _ | with_reducible refine Below.alloc ?_ (by first | omega | (simp <;> omega)) _ | with_reducible refine Below.setCell ?_ (by first | omega | (simp <;> omega)) _ | with_reducible refine Below.step2 (by with_reducible assumption) ?_ | with_reducible refine Below.step (by with_reducible assumption) ?_ (by first | omega | (simp <;> omega)))), rfl⟩
      · have g2 : (dir == 2) = false := by simpa using h2
        have he : measP ⟨x1, y1, x2, y2, len, dir⟩ x y = (-(y - y1), x - x1) := by unfold measP; rw [if_neg h0, if_neg h1, if_neg h2]
        rw [he]
        clear he h0 h1 h2
        go_enter Try.func78, Try.ntmps78
        go_wp2
        go_quiet (fail)
        go_wp2
        go_ret2
        exact ⟨(by repeat (first | with_reducible exact Below.refl _ _ | with_reducible assumption | with_reducible refine Below.drew ?_ | with_reducible refine Below.drewN ?_ _ | with_reducible refine Below.alloc2 ?_ _ | with_reducible refine Below.alloc ?_ (by first | omega | (simp <;> omega)) _ | with_reducible refine Below.setCell ?_ (by first | omega | (simp <;> omega)) _ | with_reducible refine Below.step2 (by with_reducible assumption) ?_ | with_reducible refine Below.step (by with_reducible assumption) ?_ (by first | omega | (simp <;> omega)))), rfl⟩

set_option maxHeartbeats 2000000 in
theorem span_any (x1 y1 x2 y2 len dir : Int) (w : World) :
    Calls Try.prog 77 #[.agg #[.int .i64 x1, .int .i64 y1, .int .i64 x2, .int .i64 y2, .int .i64 len, .int .i64 dir]] w fun e w' => Below w.heap.size w w' ∧ e = .returned (.tuple #[.int .i64 (min y1 y2), .int .i64 (max y1 y2)]) := by
  go_enter Try.func77, Try.ntmps77
  go_wp2
  go_region
  all_goals
    go_wp2
    go_ret2
    exact ⟨(by repeat (first | with_reducible exact Below.refl _ _ | with_reducible assumption | with_reducible refine Below.drew ?_ | with_reducible refine Below.drewN ?_ _ | with_reducible refine Below.alloc2 ?_ _ | with_reducible refine Below.alloc ?_ (by first | omega | (simp <;> omega)) _ | with_reducible refine Below.setCell ?_ (by first | omega | (simp <;> omega)) _ | with_reducible refine Below.step2 (by with_reducible assumption) ?_ | with_reducible refine Below.step (by with_reducible assumption) ?_ (by first | omega | (simp <;> omega)))), rfl⟩

/-- max of three numbers. -/
theorem run_max3 {P : Program} (w : World) (ts : Array TypeId) (t : TypeId) (x y z : Int) : (Builtin.max_ ts t #[.int .i64 x, .int .i64 y, .int .i64 z]).run P w = .ok (.int .i64 (max x (max y z))) w := by
  have h : ∀ a b : Int, (if b > a then b else a) = max a b := fun a b => by split <;> omega
  simp [Builtin.max_, Builtin.max2, h, Int.max_assoc]

/-- The square of a place's distance from a side. -/
def distS (s : Side) (x y : Int) : Int :=
  max (-(measP s x y).1) (max ((measP s x y).1 - s.len) 0) * max (-(measP s x y).1) (max ((measP s x y).1 - s.len) 0) + (measP s x y).2 * (measP s x y).2
theorem sq_bd {x : Int} (m : Nat) (h1 : -(m : Int) ≤ x) (h2 : x ≤ m) : 0 ≤ x * x ∧ x * x ≤ (m : Int) * m := by
  have e : x * x = ((x.natAbs * x.natAbs : Nat) : Int) := by rw [Int.natCast_mul]; exact (Int.natAbs_mul_self).symm
  rw [e]
  have : x.natAbs ≤ m := by omega
  have := Nat.mul_le_mul this this
  refine ⟨by omega, ?_⟩
  rw [← Int.natCast_mul]
  omega
theorem distS_bd {s : Side} {x y : Int} (hs : Bds s) (hx : -1000000 ≤ x ∧ x ≤ 1000000) (hy : -1000000 ≤ y ∧ y ≤ 1000000) : 0 ≤ distS s x y ∧ distS s x y ≤ 100000000000000 := by
  have h := measP_bd hs hx hy
  have hl := hs.len
  unfold distS
  have a := sq_bd (x := max (-(measP s x y).1) (max ((measP s x y).1 - s.len) 0)) 6000000 (by omega) (by omega)
  have b := sq_bd (x := (measP s x y).2) 2000000 (by omega) (by omega)
  omega

set_option maxHeartbeats 2000000 in
theorem distance_any (x1 y1 x2 y2 len dir x y : Int) (w : World) (hs : Bds ⟨x1, y1, x2, y2, len, dir⟩) (hx : -1000000 ≤ x ∧ x ≤ 1000000) (hy : -1000000 ≤ y ∧ y ≤ 1000000) :
    Calls Try.prog 64 #[.agg #[.int .i64 x1, .int .i64 y1, .int .i64 x2, .int .i64 y2, .int .i64 len, .int .i64 dir], .agg #[.int .i64 x, .int .i64 y]] w fun e w' => Below w.heap.size w w' ∧ e = .returned (.int .i64 (distS ⟨x1, y1, x2, y2, len, dir⟩ x y)) := by
  have HM := Lib.hid (fun W : World => measure_any x1 y1 x2 y2 len dir x y W hs hx hy)
  have h := measP_bd hs hx hy
  have hl := hs.len
  simp only at hl
  obtain ⟨l1, l2⟩ := hl
  have hm3 := fun (W : World) (ts : Array TypeId) (t : TypeId) (x y z : Int) => run_max3 (P := Try.prog) W ts t x y z
  unfold distS
  generalize measP ⟨x1, y1, x2, y2, len, dir⟩ x y = m at *
  obtain ⟨a, b⟩ := m
  obtain ⟨⟨m1, m2⟩, m3, m4⟩ := h
  simp only at m1 m2 m3 m4 HM ⊢
  have s1 := sq_bd (x := max (-a) (max (a - len) 0)) 6000000 (by omega) (by omega)
  have s2 := sq_bd (x := b) 2000000 (by omega) (by omega)
  obtain ⟨s11, s12⟩ := s1
  obtain ⟨s21, s22⟩ := s2
  have s13 : max (-a) (max (a - len) 0) * max (-a) (max (a - len) 0) ≤ 36000000000000 := by omega
  have s23 : b * b ≤ 4000000000000 := by omega
  clear hs hx hy s12 s22
  go_enter Try.func64, Try.ntmps64
  go_wp2_with fail
  refine (HM.out _).mono ?_
  rintro e w1 ⟨hb1, rfl⟩; obtain ⟨hc1, hf1⟩ := bcell hb1; have hz1 := hb1.size; (try simp at hz1)
  have oA1 : w.heap.size < w1.heap.size := (by omega); have oB1 : w.heap.size + 1 < w1.heap.size := (by omega)
  go_wp2
  go_ret
  exact ⟨(by repeat (first | with_reducible exact Below.refl _ _ | with_reducible assumption | with_reducible refine Below.drew ?_ | with_reducible refine Below.drewN ?_ _ | with_reducible refine Below.alloc2 ?_ _ | with_reducible refine Below.alloc ?_ (by first | omega | (simp <;> omega)) _ | with_reducible refine Below.setCell ?_ (by first | omega | (simp <;> omega)) _ | with_reducible refine Below.step2 (by with_reducible assumption) ?_ | with_reducible refine Below.step (by with_reducible assumption) ?_ (by first | omega | (simp <;> omega)))), ret_int rfl⟩

end Go.Proofs.Ytbfbjpnmgcpjlaa
