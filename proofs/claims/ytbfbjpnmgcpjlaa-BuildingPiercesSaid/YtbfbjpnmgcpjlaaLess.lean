/- Walks: less of both sides, within, slab, nodeError. -/
import Derived.Test.YtbfbjpnmgcpjlaaFrac
import Derived.Test.YtbfbjpnmgcpjlaaBoxes
import Derived.Test.YtbfbjpnmgcpjlaaRefPt
import Derived.RegionTactic
import Derived.Outline
namespace Go.Proofs.Ytbfbjpnmgcpjlaa
open Go.RowKit

/-- Products of shares stay within an int. -/
def Fine (p : Fr2) : Prop := (-4000000 ≤ p.1 ∧ p.1 ≤ 4000000) ∧ 1 ≤ p.2 ∧ p.2 ≤ 4000000
theorem Fine.mul {p q : Fr2} (hp : Fine p) (hq : Fine q) : -16000000000000 ≤ p.1 * q.2 ∧ p.1 * q.2 ≤ 16000000000000 := by
  obtain ⟨⟨a, b⟩, c, d⟩ := hp
  obtain ⟨⟨e, f⟩, g, h⟩ := hq
  have a1 := Int.mul_nonneg (show 0 ≤ p.1 + 4000000 by omega) (show 0 ≤ q.2 by omega)
  have a2 := Int.mul_nonneg (show 0 ≤ 4000000 - p.1 by omega) (show 0 ≤ q.2 by omega)
  rw [Int.add_mul] at a1
  rw [Int.sub_mul] at a2
  omega

set_option maxHeartbeats 1000000 in
theorem less_any (p q : Fr2) (w : World) (hp : Fine p) (hq : Fine q) : Calls Try.prog 49 #[.agg #[.int .i64 p.1, .int .i64 p.2], .agg #[.int .i64 q.1, .int .i64 q.2]] w fun e w' => Below w.heap.size w w' ∧ e = .returned (.bool (lessP p q)) := by
  obtain ⟨m1, m2⟩ := hp.mul hq
  obtain ⟨m3, m4⟩ := hq.mul hp
  obtain ⟨a, b⟩ := p
  obtain ⟨c, d⟩ := q
  simp only at m1 m2 m3 m4 ⊢
  unfold lessP
  clear hp hq
  go_enter Try.func49, Try.ntmps49
  go_wp2
  go_ret
  exact ⟨(by repeat (first | with_reducible exact Below.refl _ _ | with_reducible assumption | with_reducible refine Below.drew ?_ | with_reducible refine Below.drewN ?_ _ | with_reducible refine Below.alloc2 ?_ _ | with_reducible refine Below.alloc ?_ (by first | omega | (simp <;> omega)) _ | with_reducible refine Below.setCell ?_ (by first | omega | (simp <;> omega)) _ | with_reducible refine Below.step2 (by with_reducible assumption) ?_ | with_reducible refine Below.step (by with_reducible assumption) ?_ (by first | omega | (simp <;> omega)))), rfl⟩

set_option maxHeartbeats 1000000 in
theorem refLess_any (p q : Fr2) (w : World) (hp : Fine p) (hq : Fine q) : Calls Try.prog 51 #[.agg #[.int .i64 p.1, .int .i64 p.2], .agg #[.int .i64 q.1, .int .i64 q.2]] w fun e w' => Below w.heap.size w w' ∧ e = .returned (.bool (lessP p q)) := by
  obtain ⟨m1, m2⟩ := hp.mul hq
  obtain ⟨m3, m4⟩ := hq.mul hp
  obtain ⟨a, b⟩ := p
  obtain ⟨c, d⟩ := q
  simp only at m1 m2 m3 m4 ⊢
  unfold lessP
  clear hp hq
  go_enter Try.func51, Try.ntmps51
  go_wp2
  go_ret
  exact ⟨(by repeat (first | with_reducible exact Below.refl _ _ | with_reducible assumption | with_reducible refine Below.drew ?_ | with_reducible refine Below.drewN ?_ _ | with_reducible refine Below.alloc2 ?_ _ | with_reducible refine Below.alloc ?_ (by first | omega | (simp <;> omega)) _ | with_reducible refine Below.setCell ?_ (by first | omega | (simp <;> omega)) _ | with_reducible refine Below.step2 (by with_reducible assumption) ?_ | with_reducible refine Below.step (by with_reducible assumption) ?_ (by first | omega | (simp <;> omega)))), rfl⟩

set_option maxHeartbeats 1000000 in
theorem nodeError_any (x y z : Int) (w : World) : Calls Try.prog 47 #[.agg #[.int .i64 x, .int .i64 y, .int .i64 z]] w fun e w' => Below w.heap.size w w' ∧ e = .returned (.int .i64 (nodeErr x y z)) := by
  have hn := Nums.new (w.alloc (.cells #[.int .i64 x, .int .i64 y, .int .i64 z] 36)) 3 [x, y, z] 3 rfl (by omega) (w.heap.size + 1) (by simp)
  simp only [i64s, List.map] at hn
  have HN := Lib.hid hn
  clear hn
  have he : nodeErr x y z = if [x, y, z].all inB = true then 0 else 2 := by unfold nodeErr; simp [Bool.and_assoc]
  rw [he]
  clear he
  rcases hi : [x, y, z].all inB
  all_goals
    have HI := Lib.hid hi
    clear hi
    go_enter Try.func47, Try.ntmps47
    go_wp2_with (go_at_call 46; refine (inRange_any _ _ _ _ _ _ HN.out).mono ?_; rintro e w' ⟨rfl, rfl⟩; rw [HI.out])
    go_ret
    exact ⟨(by repeat (first | with_reducible exact Below.refl _ _ | with_reducible assumption | with_reducible refine Below.drew ?_ | with_reducible refine Below.drewN ?_ _ | with_reducible refine Below.alloc2 ?_ _ | with_reducible refine Below.alloc ?_ (by first | omega | (simp <;> omega)) _ | with_reducible refine Below.setCell ?_ (by first | omega | (simp <;> omega)) _ | with_reducible refine Below.step2 (by with_reducible assumption) ?_ | with_reducible refine Below.step (by with_reducible assumption) ?_ (by first | omega | (simp <;> omega)))), rfl⟩

/-- A coordinate. -/
def Co (x : Int) : Prop := -1000000 ≤ x ∧ x ≤ 1000000

set_option maxHeartbeats 2000000 in
theorem slab_any (a b lo hi : Int) (w : World) (ha : Co a) (hb : Co b) (hl : Co lo) (hh : Co hi) :
    Calls Try.prog 50 #[.int .i64 a, .int .i64 b, .int .i64 lo, .int .i64 hi] w fun e w' => Below w.heap.size w w' ∧
      e = .returned (.tuple #[.agg #[.int .i64 (slabP a b lo hi).1.1, .int .i64 (slabP a b lo hi).1.2], .agg #[.int .i64 (slabP a b lo hi).2.1.1, .int .i64 (slabP a b lo hi).2.1.2], .bool (slabP a b lo hi).2.2]) := by
  obtain ⟨a1, a2⟩ := ha
  obtain ⟨b1, b2⟩ := hb
  obtain ⟨l1, l2⟩ := hl
  obtain ⟨h1, h2⟩ := hh
  by_cases hab : a = b
  · have hs : slabP a b lo hi = ((-1, 1), (2, 1), decide (lo < a ∧ a < hi)) := by unfold slabP; rw [if_pos hab]
    rw [hs]
    clear hs
    subst hab
    rcases Int.lt_or_le lo a with q1 | q1
    · rcases Int.lt_or_le a hi with q2 | q2
      · rw [show decide (lo < a ∧ a < hi) = true by simp; omega]
        go_enter Try.func50, Try.ntmps50
        go_wp2
        refine bodyPost_ret (v := .tuple #[.agg #[.int .i64 (-1), .int .i64 1], .agg #[.int .i64 2, .int .i64 1], .bool true]) (by simp [results, Try.results50, go_sem]) rfl ⟨(by repeat (first | with_reducible exact Below.refl _ _ | with_reducible assumption | with_reducible refine Below.drew ?_ | with_reducible refine Below.drewN ?_ _ | with_reducible refine Below.alloc2 ?_ _ | with_reducible refine Below.alloc ?_ (by first | omega | (simp <;> omega)) _ | with_reducible refine Below.setCell ?_ (by first | omega | (simp <;> omega)) _ | with_reducible refine Below.step2 (by with_reducible assumption) ?_ | with_reducible refine Below.step (by with_reducible assumption) ?_ (by first | omega | (simp <;> omega)))), rfl⟩
      · rw [show decide (lo < a ∧ a < hi) = false by simp; omega]
        have qd : decide (a < hi) = false := by simp; omega
        go_enter Try.func50, Try.ntmps50
        go_wp2
        refine bodyPost_ret (v := .tuple #[.agg #[.int .i64 (-1), .int .i64 1], .agg #[.int .i64 2, .int .i64 1], .bool false]) (by simp [results, Try.results50, go_sem]) rfl ⟨(by repeat (first | with_reducible exact Below.refl _ _ | with_reducible assumption | with_reducible refine Below.drew ?_ | with_reducible refine Below.drewN ?_ _ | with_reducible refine Below.alloc2 ?_ _ | with_reducible refine Below.alloc ?_ (by first | omega | (simp <;> omega)) _ | with_reducible refine Below.setCell ?_ (by first | omega | (simp <;> omega)) _ | with_reducible refine Below.step2 (by with_reducible assumption) ?_ | with_reducible refine Below.step (by with_reducible assumption) ?_ (by first | omega | (simp <;> omega)))), rfl⟩
    · rw [show decide (lo < a ∧ a < hi) = false by simp; omega]
      go_enter Try.func50, Try.ntmps50
      go_wp2
      refine bodyPost_ret (v := .tuple #[.agg #[.int .i64 (-1), .int .i64 1], .agg #[.int .i64 2, .int .i64 1], .bool false]) (by simp [results, Try.results50, go_sem]) rfl ⟨(by repeat (first | with_reducible exact Below.refl _ _ | with_reducible assumption | with_reducible refine Below.drew ?_ | with_reducible refine Below.drewN ?_ _ | with_reducible refine Below.alloc2 ?_ _ | with_reducible refine Below.alloc ?_ (by first | omega | (simp <;> omega)) _ | with_reducible refine Below.setCell ?_ (by first | omega | (simp <;> omega)) _ | with_reducible refine Below.step2 (by with_reducible assumption) ?_ | with_reducible refine Below.step (by with_reducible assumption) ?_ (by first | omega | (simp <;> omega)))), rfl⟩
  · have hne : (a == b) = false := by simpa using hab
    by_cases hba : b < a
    · have hs : slabP a b lo hi = ((a - hi, a - b), (a - lo, a - b), true) := by unfold slabP; rw [if_neg hab, if_pos hba]
      rw [hs]
      clear hs hab
      go_enter Try.func50, Try.ntmps50
      go_wp2
      go_region
      all_goals
        go_wp2
        refine bodyPost_ret (v := .tuple #[.agg #[.int .i64 (a - hi), .int .i64 (a - b)], .agg #[.int .i64 (a - lo), .int .i64 (a - b)], .bool true]) (by simp [results, Try.results50, go_sem]) rfl ⟨(by repeat (first | with_reducible exact Below.refl _ _ | with_reducible assumption | with_reducible refine Below.drew ?_ | with_reducible refine Below.drewN ?_ _ | with_reducible refine Below.alloc2 ?_ _ | with_reducible refine Below.alloc ?_ (by first | omega | (simp <;> omega)) _ | with_reducible refine Below.setCell ?_ (by first | omega | (simp <;> omega)) _ | with_reducible refine Below.step2 (by with_reducible assumption) ?_ | with_reducible refine Below.step (by with_reducible assumption) ?_ (by first | omega | (simp <;> omega)))), rfl⟩
    · have hs : slabP a b lo hi = ((lo - a, b - a), (hi - a, b - a), true) := by unfold slabP; rw [if_neg hab, if_neg hba]
      rw [hs]
      clear hs hab
      go_enter Try.func50, Try.ntmps50
      go_wp2
      go_region
      all_goals
        go_wp2
        refine bodyPost_ret (v := .tuple #[.agg #[.int .i64 (lo - a), .int .i64 (b - a)], .agg #[.int .i64 (hi - a), .int .i64 (b - a)], .bool true]) (by simp [results, Try.results50, go_sem]) rfl ⟨(by repeat (first | with_reducible exact Below.refl _ _ | with_reducible assumption | with_reducible refine Below.drew ?_ | with_reducible refine Below.drewN ?_ _ | with_reducible refine Below.alloc2 ?_ _ | with_reducible refine Below.alloc ?_ (by first | omega | (simp <;> omega)) _ | with_reducible refine Below.setCell ?_ (by first | omega | (simp <;> omega)) _ | with_reducible refine Below.step2 (by with_reducible assumption) ?_ | with_reducible refine Below.step (by with_reducible assumption) ?_ (by first | omega | (simp <;> omega)))), rfl⟩

end Go.Proofs.Ytbfbjpnmgcpjlaa
