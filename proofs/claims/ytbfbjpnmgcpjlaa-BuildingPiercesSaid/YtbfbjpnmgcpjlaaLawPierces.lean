/- BuildingPierces: for all boxes and nodes, what Pierces tells, from a to b and from b to a, is what the reference tells. -/
import Derived.Test.YtbfbjpnmgcpjlaaRefPierces
import Derived.Test.YtbfbjpnmgcpjlaaAwake
namespace Go.Proofs.Ytbfbjpnmgcpjlaa
open Go.RowKit

theorem pierces_ref (x1 y1 z1 x2 y2 z2 a1 a2 a3 b1 b2 b3 : Int) : piercesP x1 y1 z1 x2 y2 z2 a1 a2 a3 b1 b2 b3 = refP (slabP a1 b1 x1 x2) (slabP a2 b2 y1 y2) (slabP a3 b3 z1 z2) := by
  have h := ((Tied.first a1 b1 x1 x2).step a2 b2 y1 y2).step a3 b3 z1 z2
  exact h.end_

theorem slab_rev (a b lo hi : Int) : vl (slabP b a lo hi).1 = 1 - vl (slabP a b lo hi).2.1 ∧ vl (slabP b a lo hi).2.1 = 1 - vl (slabP a b lo hi).1 ∧ (slabP b a lo hi).2.2 = (slabP a b lo hi).2.2 := by
  rcases Int.lt_trichotomy a b with h | h | h
  · have e1 : slabP a b lo hi = ((lo - a, b - a), (hi - a, b - a), true) := by unfold slabP; rw [if_neg (by omega), if_neg (by omega)]
    have e2 : slabP b a lo hi = ((b - hi, b - a), (b - lo, b - a), true) := by unfold slabP; rw [if_neg (by omega), if_pos h]
    rw [e1, e2]
    have hd : ((b - a : Int) : Rat) ≠ 0 := by
      intro e
      have : b - a = 0 := by exact_mod_cast e
      omega
    refine ⟨?_, ?_, rfl⟩
    · unfold vl
      simp only
      rw [show ((b - hi : Int) : Rat) = ((b - a : Int) : Rat) - ((hi - a : Int) : Rat) by rw [← Rat.intCast_sub]; congr 1; omega]
      grind
    · unfold vl
      simp only
      rw [show ((b - lo : Int) : Rat) = ((b - a : Int) : Rat) - ((lo - a : Int) : Rat) by rw [← Rat.intCast_sub]; congr 1; omega]
      grind
  · subst h
    have e1 : slabP a a lo hi = ((-1, 1), (2, 1), decide (lo < a ∧ a < hi)) := by unfold slabP; rw [if_pos rfl]
    rw [e1]
    refine ⟨?_, ?_, rfl⟩
    · simp only [vl_m1, vl_2]; grind
    · simp only [vl_m1, vl_2]; grind
  · have e1 : slabP a b lo hi = ((a - hi, a - b), (a - lo, a - b), true) := by unfold slabP; rw [if_neg (by omega), if_pos h]
    have e2 : slabP b a lo hi = ((lo - b, a - b), (hi - b, a - b), true) := by unfold slabP; rw [if_neg (by omega), if_neg (by omega)]
    rw [e1, e2]
    have hd : ((a - b : Int) : Rat) ≠ 0 := by
      intro e
      have : a - b = 0 := by exact_mod_cast e
      omega
    refine ⟨?_, ?_, rfl⟩
    · unfold vl
      simp only
      rw [show ((lo - b : Int) : Rat) = ((a - b : Int) : Rat) - ((a - lo : Int) : Rat) by rw [← Rat.intCast_sub]; congr 1; omega]
      grind
    · unfold vl
      simp only
      rw [show ((hi - b : Int) : Rat) = ((a - b : Int) : Rat) - ((a - hi : Int) : Rat) by rw [← Rat.intCast_sub]; congr 1; omega]
      grind

theorem ref_rev (x1 y1 z1 x2 y2 z2 a1 a2 a3 b1 b2 b3 : Int) : refP (slabP b1 a1 x1 x2) (slabP b2 a2 y1 y2) (slabP b3 a3 z1 z2) = refP (slabP a1 b1 x1 x2) (slabP a2 b2 y1 y2) (slabP a3 b3 z1 z2) := by
  obtain ⟨u1, u2, u3⟩ := slab_rev a1 b1 x1 x2
  obtain ⟨v1, v2, v3⟩ := slab_rev a2 b2 y1 y2
  obtain ⟨w1, w2, w3⟩ := slab_rev a3 b3 z1 z2
  obtain ⟨d1, d2⟩ := slabP_den a1 b1 x1 x2
  obtain ⟨d3, d4⟩ := slabP_den a2 b2 y1 y2
  obtain ⟨d5, d6⟩ := slabP_den a3 b3 z1 z2
  obtain ⟨e1, e2⟩ := slabP_den b1 a1 x1 x2
  obtain ⟨e3, e4⟩ := slabP_den b2 a2 y1 y2
  obtain ⟨e5, e6⟩ := slabP_den b3 a3 z1 z2
  generalize slabP a1 b1 x1 x2 = S1 at *
  generalize slabP a2 b2 y1 y2 = S2 at *
  generalize slabP a3 b3 z1 z2 = S3 at *
  generalize slabP b1 a1 x1 x2 = R1 at *
  generalize slabP b2 a2 y1 y2 = R2 at *
  generalize slabP b3 a3 z1 z2 = R3 at *
  unfold refP
  rw [u3, v3, w3]
  congr 1
  rw [Bool.eq_iff_iff, endP_iff (maxP_den (maxP_den e1 e3) e5) (minP_den (minP_den e2 e4) e6), endP_iff (maxP_den (maxP_den d1 d3) d5) (minP_den (minP_den d2 d4) d6),
    maxP_vl (maxP_den e1 e3) e5, maxP_vl e1 e3, minP_vl (minP_den e2 e4) e6, minP_vl e2 e4, maxP_vl (maxP_den d1 d3) d5, maxP_vl d1 d3, minP_vl (minP_den d2 d4) d6, minP_vl d2 d4, u1, u2, v1, v2, w1, w2]
  generalize vl S1.1 = p
  generalize vl S1.2.1 = q
  generalize vl S2.1 = r
  generalize vl S2.2.1 = s
  generalize vl S3.1 = t
  generalize vl S3.2.1 = u
  grind

theorem nodeErr_or (x y z : Int) : nodeErr x y z = 0 ∨ nodeErr x y z = 2 := by unfold nodeErr; split <;> simp

set_option maxHeartbeats 2000000 in
theorem lawPierces_a (x1 y1 z1 x2 y2 z2 a1 a2 a3 b1 b2 b3 : Int) (E : Int) (w : World) (hE : E ≠ 0) (c1 : Tells Try.prog 16 #[.agg #[.int .i64 x1, .int .i64 y1, .int .i64 z1, .int .i64 x2, .int .i64 y2, .int .i64 z2], .agg #[.int .i64 a1, .int .i64 a2, .int .i64 a3], .agg #[.int .i64 b1, .int .i64 b2, .int .i64 b3]] (.tuple #[.bool false, .int .i64 E])) (c2 : Tells Try.prog 16 #[.agg #[.int .i64 x1, .int .i64 y1, .int .i64 z1, .int .i64 x2, .int .i64 y2, .int .i64 z2], .agg #[.int .i64 b1, .int .i64 b2, .int .i64 b3], .agg #[.int .i64 a1, .int .i64 a2, .int .i64 a3]] (.tuple #[.bool false, .int .i64 E]))
    (c3 : Tells Try.prog 13 #[.agg #[.int .i64 x1, .int .i64 y1, .int .i64 z1, .int .i64 x2, .int .i64 y2, .int .i64 z2]] (.int .i64 E)) :
    Calls Try.prog 4 #[.agg #[.int .i64 x1, .int .i64 y1, .int .i64 z1, .int .i64 x2, .int .i64 y2, .int .i64 z2], .agg #[.int .i64 a1, .int .i64 a2, .int .i64 a3], .agg #[.int .i64 b1, .int .i64 b2, .int .i64 b3]] w fun e w' => Below w.heap.size w w' ∧ e = .returned (.bool true) := by
  have C1 := Lib.hid c1
  have C2 := Lib.hid c2
  have C3 := Lib.hid c3
  clear c1 c2 c3
  have hne : (E != 0) = true := by simpa using hE
  have hne2 : (E == 0) = false := by simpa using hE
  clear hE
  go_enter Try.func4, Try.ntmps4
  go_wp2_with fail
  refine (awake_any _).mono ?_
  rintro e w1 ⟨hb1, rfl⟩
  have kx1 : Bk w1 w.heap.size 23 #[.int .i64 x1, .int .i64 y1, .int .i64 z1, .int .i64 x2, .int .i64 y2, .int .i64 z2] := (by repeat (first | with_reducible assumption | with_reducible exact Bk.at_ (by simp) | with_reducible refine Bk.alloc ?_ _ | with_reducible refine Bk.drew ?_ | with_reducible refine Bk.drewN ?_ _ | with_reducible refine Bk.step (by with_reducible assumption) ?_ (by first | omega | (simp <;> omega))))
  have ka1 : Bk w1 (w.heap.size + 1) 36 #[.int .i64 a1, .int .i64 a2, .int .i64 a3] := (by repeat (first | with_reducible assumption | with_reducible exact Bk.at_ (by simp) | with_reducible refine Bk.alloc ?_ _ | with_reducible refine Bk.drew ?_ | with_reducible refine Bk.drewN ?_ _ | with_reducible refine Bk.step (by with_reducible assumption) ?_ (by first | omega | (simp <;> omega))))
  have kb1 : Bk w1 (w.heap.size + 1 + 1) 36 #[.int .i64 b1, .int .i64 b2, .int .i64 b3] := (by repeat (first | with_reducible assumption | with_reducible exact Bk.at_ (by simp) | with_reducible refine Bk.alloc ?_ _ | with_reducible refine Bk.drew ?_ | with_reducible refine Bk.drewN ?_ _ | with_reducible refine Bk.step (by with_reducible assumption) ?_ (by first | omega | (simp <;> omega))))
  have hB1 : Below w.heap.size w w1 := (by repeat (first | with_reducible exact Below.refl _ _ | with_reducible assumption | with_reducible refine Below.drew ?_ | with_reducible refine Below.drewN ?_ _ | with_reducible refine Below.alloc2 ?_ _ | with_reducible refine Below.alloc ?_ (by first | omega | (simp <;> omega)) _ | with_reducible refine Below.setCell ?_ (by first | omega | (simp <;> omega)) _ | with_reducible refine Below.step2 (by with_reducible assumption) ?_ | with_reducible refine Below.step (by with_reducible assumption) ?_ (by first | omega | (simp <;> omega))))
  obtain ⟨⟨_, _, _, _, _, _⟩, -⟩ := kx1.six
  obtain ⟨_, _, _⟩ := ka1.three
  obtain ⟨_, _, _⟩ := kb1.three
  have ox1 := kx1.lt
  have oa1 := ka1.lt
  have ob1 := kb1.lt
  clear hb1
  go_wp2_with fail
  refine (C1.out _).mono ?_
  rintro e w2 ⟨hb2, rfl⟩
  have kx2 : Bk w2 w.heap.size 23 #[.int .i64 x1, .int .i64 y1, .int .i64 z1, .int .i64 x2, .int .i64 y2, .int .i64 z2] := (by repeat (first | with_reducible assumption | with_reducible exact Bk.at_ (by simp) | with_reducible refine Bk.alloc ?_ _ | with_reducible refine Bk.drew ?_ | with_reducible refine Bk.drewN ?_ _ | with_reducible refine Bk.step (by with_reducible assumption) ?_ (by first | omega | (simp <;> omega))))
  have ka2 : Bk w2 (w.heap.size + 1) 36 #[.int .i64 a1, .int .i64 a2, .int .i64 a3] := (by repeat (first | with_reducible assumption | with_reducible exact Bk.at_ (by simp) | with_reducible refine Bk.alloc ?_ _ | with_reducible refine Bk.drew ?_ | with_reducible refine Bk.drewN ?_ _ | with_reducible refine Bk.step (by with_reducible assumption) ?_ (by first | omega | (simp <;> omega))))
  have kb2 : Bk w2 (w.heap.size + 1 + 1) 36 #[.int .i64 b1, .int .i64 b2, .int .i64 b3] := (by repeat (first | with_reducible assumption | with_reducible exact Bk.at_ (by simp) | with_reducible refine Bk.alloc ?_ _ | with_reducible refine Bk.drew ?_ | with_reducible refine Bk.drewN ?_ _ | with_reducible refine Bk.step (by with_reducible assumption) ?_ (by first | omega | (simp <;> omega))))
  have hB2 : Below w.heap.size w w2 := (by repeat (first | with_reducible exact Below.refl _ _ | with_reducible assumption | with_reducible refine Below.drew ?_ | with_reducible refine Below.drewN ?_ _ | with_reducible refine Below.alloc2 ?_ _ | with_reducible refine Below.alloc ?_ (by first | omega | (simp <;> omega)) _ | with_reducible refine Below.setCell ?_ (by first | omega | (simp <;> omega)) _ | with_reducible refine Below.step2 (by with_reducible assumption) ?_ | with_reducible refine Below.step (by with_reducible assumption) ?_ (by first | omega | (simp <;> omega))))
  obtain ⟨⟨_, _, _, _, _, _⟩, -⟩ := kx2.six
  obtain ⟨_, _, _⟩ := ka2.three
  obtain ⟨_, _, _⟩ := kb2.three
  have ox2 := kx2.lt
  have oa2 := ka2.lt
  have ob2 := kb2.lt
  clear hb2
  go_wp2_with fail
  refine (C2.out _).mono ?_
  rintro e w3 ⟨hb3, rfl⟩
  have kx3 : Bk w3 w.heap.size 23 #[.int .i64 x1, .int .i64 y1, .int .i64 z1, .int .i64 x2, .int .i64 y2, .int .i64 z2] := (by repeat (first | with_reducible assumption | with_reducible exact Bk.at_ (by simp) | with_reducible refine Bk.alloc ?_ _ | with_reducible refine Bk.drew ?_ | with_reducible refine Bk.drewN ?_ _ | with_reducible refine Bk.step (by with_reducible assumption) ?_ (by first | omega | (simp <;> omega))))
  have ka3 : Bk w3 (w.heap.size + 1) 36 #[.int .i64 a1, .int .i64 a2, .int .i64 a3] := (by repeat (first | with_reducible assumption | with_reducible exact Bk.at_ (by simp) | with_reducible refine Bk.alloc ?_ _ | with_reducible refine Bk.drew ?_ | with_reducible refine Bk.drewN ?_ _ | with_reducible refine Bk.step (by with_reducible assumption) ?_ (by first | omega | (simp <;> omega))))
  have kb3 : Bk w3 (w.heap.size + 1 + 1) 36 #[.int .i64 b1, .int .i64 b2, .int .i64 b3] := (by repeat (first | with_reducible assumption | with_reducible exact Bk.at_ (by simp) | with_reducible refine Bk.alloc ?_ _ | with_reducible refine Bk.drew ?_ | with_reducible refine Bk.drewN ?_ _ | with_reducible refine Bk.step (by with_reducible assumption) ?_ (by first | omega | (simp <;> omega))))
  have hB3 : Below w.heap.size w w3 := (by repeat (first | with_reducible exact Below.refl _ _ | with_reducible assumption | with_reducible refine Below.drew ?_ | with_reducible refine Below.drewN ?_ _ | with_reducible refine Below.alloc2 ?_ _ | with_reducible refine Below.alloc ?_ (by first | omega | (simp <;> omega)) _ | with_reducible refine Below.setCell ?_ (by first | omega | (simp <;> omega)) _ | with_reducible refine Below.step2 (by with_reducible assumption) ?_ | with_reducible refine Below.step (by with_reducible assumption) ?_ (by first | omega | (simp <;> omega))))
  obtain ⟨⟨_, _, _, _, _, _⟩, -⟩ := kx3.six
  obtain ⟨_, _, _⟩ := ka3.three
  obtain ⟨_, _, _⟩ := kb3.three
  have ox3 := kx3.lt
  have oa3 := ka3.lt
  have ob3 := kb3.lt
  clear hb3
  go_wp2_with fail
  refine (C3.out _).mono ?_
  rintro e w4 ⟨hb4, rfl⟩
  have kx4 : Bk w4 w.heap.size 23 #[.int .i64 x1, .int .i64 y1, .int .i64 z1, .int .i64 x2, .int .i64 y2, .int .i64 z2] := (by repeat (first | with_reducible assumption | with_reducible exact Bk.at_ (by simp) | with_reducible refine Bk.alloc ?_ _ | with_reducible refine Bk.drew ?_ | with_reducible refine Bk.drewN ?_ _ | with_reducible refine Bk.step (by with_reducible assumption) ?_ (by first | omega | (simp <;> omega))))
  have ka4 : Bk w4 (w.heap.size + 1) 36 #[.int .i64 a1, .int .i64 a2, .int .i64 a3] := (by repeat (first | with_reducible assumption | with_reducible exact Bk.at_ (by simp) | with_reducible refine Bk.alloc ?_ _ | with_reducible refine Bk.drew ?_ | with_reducible refine Bk.drewN ?_ _ | with_reducible refine Bk.step (by with_reducible assumption) ?_ (by first | omega | (simp <;> omega))))
  have kb4 : Bk w4 (w.heap.size + 1 + 1) 36 #[.int .i64 b1, .int .i64 b2, .int .i64 b3] := (by repeat (first | with_reducible assumption | with_reducible exact Bk.at_ (by simp) | with_reducible refine Bk.alloc ?_ _ | with_reducible refine Bk.drew ?_ | with_reducible refine Bk.drewN ?_ _ | with_reducible refine Bk.step (by with_reducible assumption) ?_ (by first | omega | (simp <;> omega))))
  have hB4 : Below w.heap.size w w4 := (by repeat (first | with_reducible exact Below.refl _ _ | with_reducible assumption | with_reducible refine Below.drew ?_ | with_reducible refine Below.drewN ?_ _ | with_reducible refine Below.alloc2 ?_ _ | with_reducible refine Below.alloc ?_ (by first | omega | (simp <;> omega)) _ | with_reducible refine Below.setCell ?_ (by first | omega | (simp <;> omega)) _ | with_reducible refine Below.step2 (by with_reducible assumption) ?_ | with_reducible refine Below.step (by with_reducible assumption) ?_ (by first | omega | (simp <;> omega))))
  obtain ⟨⟨_, _, _, _, _, _⟩, -⟩ := kx4.six
  obtain ⟨_, _, _⟩ := ka4.three
  obtain ⟨_, _, _⟩ := kb4.three
  have ox4 := kx4.lt
  have oa4 := ka4.lt
  have ob4 := kb4.lt
  clear hb4
  go_wp2
  go_ret
  exact ⟨(by repeat (first | with_reducible exact Below.refl _ _ | with_reducible assumption | with_reducible refine Below.drew ?_ | with_reducible refine Below.drewN ?_ _ | with_reducible refine Below.alloc2 ?_ _ | with_reducible refine Below.alloc ?_ (by first | omega | (simp <;> omega)) _ | with_reducible refine Below.setCell ?_ (by first | omega | (simp <;> omega)) _ | with_reducible refine Below.step2 (by with_reducible assumption) ?_ | with_reducible refine Below.step (by with_reducible assumption) ?_ (by first | omega | (simp <;> omega)))), by simp⟩

set_option maxHeartbeats 2000000 in
theorem lawPierces_b (x1 y1 z1 x2 y2 z2 a1 a2 a3 b1 b2 b3 : Int) (E : Int) (w : World) (hE : E ≠ 0) (c1 : Tells Try.prog 16 #[.agg #[.int .i64 x1, .int .i64 y1, .int .i64 z1, .int .i64 x2, .int .i64 y2, .int .i64 z2], .agg #[.int .i64 a1, .int .i64 a2, .int .i64 a3], .agg #[.int .i64 b1, .int .i64 b2, .int .i64 b3]] (.tuple #[.bool false, .int .i64 E])) (c2 : Tells Try.prog 16 #[.agg #[.int .i64 x1, .int .i64 y1, .int .i64 z1, .int .i64 x2, .int .i64 y2, .int .i64 z2], .agg #[.int .i64 b1, .int .i64 b2, .int .i64 b3], .agg #[.int .i64 a1, .int .i64 a2, .int .i64 a3]] (.tuple #[.bool false, .int .i64 E]))
    (c3 : Tells Try.prog 13 #[.agg #[.int .i64 x1, .int .i64 y1, .int .i64 z1, .int .i64 x2, .int .i64 y2, .int .i64 z2]] (.int .i64 0)) (c4 : Tells Try.prog 17 #[.agg #[.int .i64 a1, .int .i64 a2, .int .i64 a3]] (.int .i64 E)) :
    Calls Try.prog 4 #[.agg #[.int .i64 x1, .int .i64 y1, .int .i64 z1, .int .i64 x2, .int .i64 y2, .int .i64 z2], .agg #[.int .i64 a1, .int .i64 a2, .int .i64 a3], .agg #[.int .i64 b1, .int .i64 b2, .int .i64 b3]] w fun e w' => Below w.heap.size w w' ∧ e = .returned (.bool true) := by
  have C1 := Lib.hid c1
  have C2 := Lib.hid c2
  have C3 := Lib.hid c3
  clear c1 c2 c3
  have C4 := Lib.hid c4
  have hne : (E != 0) = true := by simpa using hE
  have hne2 : (E == 0) = false := by simpa using hE
  clear hE c4
  go_enter Try.func4, Try.ntmps4
  go_wp2_with fail
  refine (awake_any _).mono ?_
  rintro e w1 ⟨hb1, rfl⟩
  have kx1 : Bk w1 w.heap.size 23 #[.int .i64 x1, .int .i64 y1, .int .i64 z1, .int .i64 x2, .int .i64 y2, .int .i64 z2] := (by repeat (first | with_reducible assumption | with_reducible exact Bk.at_ (by simp) | with_reducible refine Bk.alloc ?_ _ | with_reducible refine Bk.drew ?_ | with_reducible refine Bk.drewN ?_ _ | with_reducible refine Bk.step (by with_reducible assumption) ?_ (by first | omega | (simp <;> omega))))
  have ka1 : Bk w1 (w.heap.size + 1) 36 #[.int .i64 a1, .int .i64 a2, .int .i64 a3] := (by repeat (first | with_reducible assumption | with_reducible exact Bk.at_ (by simp) | with_reducible refine Bk.alloc ?_ _ | with_reducible refine Bk.drew ?_ | with_reducible refine Bk.drewN ?_ _ | with_reducible refine Bk.step (by with_reducible assumption) ?_ (by first | omega | (simp <;> omega))))
  have kb1 : Bk w1 (w.heap.size + 1 + 1) 36 #[.int .i64 b1, .int .i64 b2, .int .i64 b3] := (by repeat (first | with_reducible assumption | with_reducible exact Bk.at_ (by simp) | with_reducible refine Bk.alloc ?_ _ | with_reducible refine Bk.drew ?_ | with_reducible refine Bk.drewN ?_ _ | with_reducible refine Bk.step (by with_reducible assumption) ?_ (by first | omega | (simp <;> omega))))
  have hB1 : Below w.heap.size w w1 := (by repeat (first | with_reducible exact Below.refl _ _ | with_reducible assumption | with_reducible refine Below.drew ?_ | with_reducible refine Below.drewN ?_ _ | with_reducible refine Below.alloc2 ?_ _ | with_reducible refine Below.alloc ?_ (by first | omega | (simp <;> omega)) _ | with_reducible refine Below.setCell ?_ (by first | omega | (simp <;> omega)) _ | with_reducible refine Below.step2 (by with_reducible assumption) ?_ | with_reducible refine Below.step (by with_reducible assumption) ?_ (by first | omega | (simp <;> omega))))
  obtain ⟨⟨_, _, _, _, _, _⟩, -⟩ := kx1.six
  obtain ⟨_, _, _⟩ := ka1.three
  obtain ⟨_, _, _⟩ := kb1.three
  have ox1 := kx1.lt
  have oa1 := ka1.lt
  have ob1 := kb1.lt
  clear hb1
  go_wp2_with fail
  refine (C1.out _).mono ?_
  rintro e w2 ⟨hb2, rfl⟩
  have kx2 : Bk w2 w.heap.size 23 #[.int .i64 x1, .int .i64 y1, .int .i64 z1, .int .i64 x2, .int .i64 y2, .int .i64 z2] := (by repeat (first | with_reducible assumption | with_reducible exact Bk.at_ (by simp) | with_reducible refine Bk.alloc ?_ _ | with_reducible refine Bk.drew ?_ | with_reducible refine Bk.drewN ?_ _ | with_reducible refine Bk.step (by with_reducible assumption) ?_ (by first | omega | (simp <;> omega))))
  have ka2 : Bk w2 (w.heap.size + 1) 36 #[.int .i64 a1, .int .i64 a2, .int .i64 a3] := (by repeat (first | with_reducible assumption | with_reducible exact Bk.at_ (by simp) | with_reducible refine Bk.alloc ?_ _ | with_reducible refine Bk.drew ?_ | with_reducible refine Bk.drewN ?_ _ | with_reducible refine Bk.step (by with_reducible assumption) ?_ (by first | omega | (simp <;> omega))))
  have kb2 : Bk w2 (w.heap.size + 1 + 1) 36 #[.int .i64 b1, .int .i64 b2, .int .i64 b3] := (by repeat (first | with_reducible assumption | with_reducible exact Bk.at_ (by simp) | with_reducible refine Bk.alloc ?_ _ | with_reducible refine Bk.drew ?_ | with_reducible refine Bk.drewN ?_ _ | with_reducible refine Bk.step (by with_reducible assumption) ?_ (by first | omega | (simp <;> omega))))
  have hB2 : Below w.heap.size w w2 := (by repeat (first | with_reducible exact Below.refl _ _ | with_reducible assumption | with_reducible refine Below.drew ?_ | with_reducible refine Below.drewN ?_ _ | with_reducible refine Below.alloc2 ?_ _ | with_reducible refine Below.alloc ?_ (by first | omega | (simp <;> omega)) _ | with_reducible refine Below.setCell ?_ (by first | omega | (simp <;> omega)) _ | with_reducible refine Below.step2 (by with_reducible assumption) ?_ | with_reducible refine Below.step (by with_reducible assumption) ?_ (by first | omega | (simp <;> omega))))
  obtain ⟨⟨_, _, _, _, _, _⟩, -⟩ := kx2.six
  obtain ⟨_, _, _⟩ := ka2.three
  obtain ⟨_, _, _⟩ := kb2.three
  have ox2 := kx2.lt
  have oa2 := ka2.lt
  have ob2 := kb2.lt
  clear hb2
  go_wp2_with fail
  refine (C2.out _).mono ?_
  rintro e w3 ⟨hb3, rfl⟩
  have kx3 : Bk w3 w.heap.size 23 #[.int .i64 x1, .int .i64 y1, .int .i64 z1, .int .i64 x2, .int .i64 y2, .int .i64 z2] := (by repeat (first | with_reducible assumption | with_reducible exact Bk.at_ (by simp) | with_reducible refine Bk.alloc ?_ _ | with_reducible refine Bk.drew ?_ | with_reducible refine Bk.drewN ?_ _ | with_reducible refine Bk.step (by with_reducible assumption) ?_ (by first | omega | (simp <;> omega))))
  have ka3 : Bk w3 (w.heap.size + 1) 36 #[.int .i64 a1, .int .i64 a2, .int .i64 a3] := (by repeat (first | with_reducible assumption | with_reducible exact Bk.at_ (by simp) | with_reducible refine Bk.alloc ?_ _ | with_reducible refine Bk.drew ?_ | with_reducible refine Bk.drewN ?_ _ | with_reducible refine Bk.step (by with_reducible assumption) ?_ (by first | omega | (simp <;> omega))))
  have kb3 : Bk w3 (w.heap.size + 1 + 1) 36 #[.int .i64 b1, .int .i64 b2, .int .i64 b3] := (by repeat (first | with_reducible assumption | with_reducible exact Bk.at_ (by simp) | with_reducible refine Bk.alloc ?_ _ | with_reducible refine Bk.drew ?_ | with_reducible refine Bk.drewN ?_ _ | with_reducible refine Bk.step (by with_reducible assumption) ?_ (by first | omega | (simp <;> omega))))
  have hB3 : Below w.heap.size w w3 := (by repeat (first | with_reducible exact Below.refl _ _ | with_reducible assumption | with_reducible refine Below.drew ?_ | with_reducible refine Below.drewN ?_ _ | with_reducible refine Below.alloc2 ?_ _ | with_reducible refine Below.alloc ?_ (by first | omega | (simp <;> omega)) _ | with_reducible refine Below.setCell ?_ (by first | omega | (simp <;> omega)) _ | with_reducible refine Below.step2 (by with_reducible assumption) ?_ | with_reducible refine Below.step (by with_reducible assumption) ?_ (by first | omega | (simp <;> omega))))
  obtain ⟨⟨_, _, _, _, _, _⟩, -⟩ := kx3.six
  obtain ⟨_, _, _⟩ := ka3.three
  obtain ⟨_, _, _⟩ := kb3.three
  have ox3 := kx3.lt
  have oa3 := ka3.lt
  have ob3 := kb3.lt
  clear hb3
  go_wp2_with fail
  refine (C3.out _).mono ?_
  rintro e w4 ⟨hb4, rfl⟩
  have kx4 : Bk w4 w.heap.size 23 #[.int .i64 x1, .int .i64 y1, .int .i64 z1, .int .i64 x2, .int .i64 y2, .int .i64 z2] := (by repeat (first | with_reducible assumption | with_reducible exact Bk.at_ (by simp) | with_reducible refine Bk.alloc ?_ _ | with_reducible refine Bk.drew ?_ | with_reducible refine Bk.drewN ?_ _ | with_reducible refine Bk.step (by with_reducible assumption) ?_ (by first | omega | (simp <;> omega))))
  have ka4 : Bk w4 (w.heap.size + 1) 36 #[.int .i64 a1, .int .i64 a2, .int .i64 a3] := (by repeat (first | with_reducible assumption | with_reducible exact Bk.at_ (by simp) | with_reducible refine Bk.alloc ?_ _ | with_reducible refine Bk.drew ?_ | with_reducible refine Bk.drewN ?_ _ | with_reducible refine Bk.step (by with_reducible assumption) ?_ (by first | omega | (simp <;> omega))))
  have kb4 : Bk w4 (w.heap.size + 1 + 1) 36 #[.int .i64 b1, .int .i64 b2, .int .i64 b3] := (by repeat (first | with_reducible assumption | with_reducible exact Bk.at_ (by simp) | with_reducible refine Bk.alloc ?_ _ | with_reducible refine Bk.drew ?_ | with_reducible refine Bk.drewN ?_ _ | with_reducible refine Bk.step (by with_reducible assumption) ?_ (by first | omega | (simp <;> omega))))
  have hB4 : Below w.heap.size w w4 := (by repeat (first | with_reducible exact Below.refl _ _ | with_reducible assumption | with_reducible refine Below.drew ?_ | with_reducible refine Below.drewN ?_ _ | with_reducible refine Below.alloc2 ?_ _ | with_reducible refine Below.alloc ?_ (by first | omega | (simp <;> omega)) _ | with_reducible refine Below.setCell ?_ (by first | omega | (simp <;> omega)) _ | with_reducible refine Below.step2 (by with_reducible assumption) ?_ | with_reducible refine Below.step (by with_reducible assumption) ?_ (by first | omega | (simp <;> omega))))
  obtain ⟨⟨_, _, _, _, _, _⟩, -⟩ := kx4.six
  obtain ⟨_, _, _⟩ := ka4.three
  obtain ⟨_, _, _⟩ := kb4.three
  have ox4 := kx4.lt
  have oa4 := ka4.lt
  have ob4 := kb4.lt
  clear hb4
  go_wp2_with fail
  refine (C4.out _).mono ?_
  rintro e w5 ⟨hb5, rfl⟩
  have kx5 : Bk w5 w.heap.size 23 #[.int .i64 x1, .int .i64 y1, .int .i64 z1, .int .i64 x2, .int .i64 y2, .int .i64 z2] := (by repeat (first | with_reducible assumption | with_reducible exact Bk.at_ (by simp) | with_reducible refine Bk.alloc ?_ _ | with_reducible refine Bk.drew ?_ | with_reducible refine Bk.drewN ?_ _ | with_reducible refine Bk.step (by with_reducible assumption) ?_ (by first | omega | (simp <;> omega))))
  have ka5 : Bk w5 (w.heap.size + 1) 36 #[.int .i64 a1, .int .i64 a2, .int .i64 a3] := (by repeat (first | with_reducible assumption | with_reducible exact Bk.at_ (by simp) | with_reducible refine Bk.alloc ?_ _ | with_reducible refine Bk.drew ?_ | with_reducible refine Bk.drewN ?_ _ | with_reducible refine Bk.step (by with_reducible assumption) ?_ (by first | omega | (simp <;> omega))))
  have kb5 : Bk w5 (w.heap.size + 1 + 1) 36 #[.int .i64 b1, .int .i64 b2, .int .i64 b3] := (by repeat (first | with_reducible assumption | with_reducible exact Bk.at_ (by simp) | with_reducible refine Bk.alloc ?_ _ | with_reducible refine Bk.drew ?_ | with_reducible refine Bk.drewN ?_ _ | with_reducible refine Bk.step (by with_reducible assumption) ?_ (by first | omega | (simp <;> omega))))
  have hB5 : Below w.heap.size w w5 := (by repeat (first | with_reducible exact Below.refl _ _ | with_reducible assumption | with_reducible refine Below.drew ?_ | with_reducible refine Below.drewN ?_ _ | with_reducible refine Below.alloc2 ?_ _ | with_reducible refine Below.alloc ?_ (by first | omega | (simp <;> omega)) _ | with_reducible refine Below.setCell ?_ (by first | omega | (simp <;> omega)) _ | with_reducible refine Below.step2 (by with_reducible assumption) ?_ | with_reducible refine Below.step (by with_reducible assumption) ?_ (by first | omega | (simp <;> omega))))
  obtain ⟨⟨_, _, _, _, _, _⟩, -⟩ := kx5.six
  obtain ⟨_, _, _⟩ := ka5.three
  obtain ⟨_, _, _⟩ := kb5.three
  have ox5 := kx5.lt
  have oa5 := ka5.lt
  have ob5 := kb5.lt
  clear hb5
  go_wp2
  go_ret
  exact ⟨(by repeat (first | with_reducible exact Below.refl _ _ | with_reducible assumption | with_reducible refine Below.drew ?_ | with_reducible refine Below.drewN ?_ _ | with_reducible refine Below.alloc2 ?_ _ | with_reducible refine Below.alloc ?_ (by first | omega | (simp <;> omega)) _ | with_reducible refine Below.setCell ?_ (by first | omega | (simp <;> omega)) _ | with_reducible refine Below.step2 (by with_reducible assumption) ?_ | with_reducible refine Below.step (by with_reducible assumption) ?_ (by first | omega | (simp <;> omega)))), by simp⟩

set_option maxHeartbeats 2000000 in
theorem lawPierces_c (x1 y1 z1 x2 y2 z2 a1 a2 a3 b1 b2 b3 : Int) (E : Int) (w : World) (hE : E ≠ 0) (c1 : Tells Try.prog 16 #[.agg #[.int .i64 x1, .int .i64 y1, .int .i64 z1, .int .i64 x2, .int .i64 y2, .int .i64 z2], .agg #[.int .i64 a1, .int .i64 a2, .int .i64 a3], .agg #[.int .i64 b1, .int .i64 b2, .int .i64 b3]] (.tuple #[.bool false, .int .i64 E])) (c2 : Tells Try.prog 16 #[.agg #[.int .i64 x1, .int .i64 y1, .int .i64 z1, .int .i64 x2, .int .i64 y2, .int .i64 z2], .agg #[.int .i64 b1, .int .i64 b2, .int .i64 b3], .agg #[.int .i64 a1, .int .i64 a2, .int .i64 a3]] (.tuple #[.bool false, .int .i64 E]))
    (c3 : Tells Try.prog 13 #[.agg #[.int .i64 x1, .int .i64 y1, .int .i64 z1, .int .i64 x2, .int .i64 y2, .int .i64 z2]] (.int .i64 0)) (c4 : Tells Try.prog 17 #[.agg #[.int .i64 a1, .int .i64 a2, .int .i64 a3]] (.int .i64 0)) (c5 : Tells Try.prog 17 #[.agg #[.int .i64 b1, .int .i64 b2, .int .i64 b3]] (.int .i64 E)) :
    Calls Try.prog 4 #[.agg #[.int .i64 x1, .int .i64 y1, .int .i64 z1, .int .i64 x2, .int .i64 y2, .int .i64 z2], .agg #[.int .i64 a1, .int .i64 a2, .int .i64 a3], .agg #[.int .i64 b1, .int .i64 b2, .int .i64 b3]] w fun e w' => Below w.heap.size w w' ∧ e = .returned (.bool true) := by
  have C1 := Lib.hid c1
  have C2 := Lib.hid c2
  have C3 := Lib.hid c3
  clear c1 c2 c3
  have C4 := Lib.hid c4
  have C5 := Lib.hid c5
  have hne : (E != 0) = true := by simpa using hE
  have hne2 : (E == 0) = false := by simpa using hE
  clear hE c4 c5
  go_enter Try.func4, Try.ntmps4
  go_wp2_with fail
  refine (awake_any _).mono ?_
  rintro e w1 ⟨hb1, rfl⟩
  have kx1 : Bk w1 w.heap.size 23 #[.int .i64 x1, .int .i64 y1, .int .i64 z1, .int .i64 x2, .int .i64 y2, .int .i64 z2] := (by repeat (first | with_reducible assumption | with_reducible exact Bk.at_ (by simp) | with_reducible refine Bk.alloc ?_ _ | with_reducible refine Bk.drew ?_ | with_reducible refine Bk.drewN ?_ _ | with_reducible refine Bk.step (by with_reducible assumption) ?_ (by first | omega | (simp <;> omega))))
  have ka1 : Bk w1 (w.heap.size + 1) 36 #[.int .i64 a1, .int .i64 a2, .int .i64 a3] := (by repeat (first | with_reducible assumption | with_reducible exact Bk.at_ (by simp) | with_reducible refine Bk.alloc ?_ _ | with_reducible refine Bk.drew ?_ | with_reducible refine Bk.drewN ?_ _ | with_reducible refine Bk.step (by with_reducible assumption) ?_ (by first | omega | (simp <;> omega))))
  have kb1 : Bk w1 (w.heap.size + 1 + 1) 36 #[.int .i64 b1, .int .i64 b2, .int .i64 b3] := (by repeat (first | with_reducible assumption | with_reducible exact Bk.at_ (by simp) | with_reducible refine Bk.alloc ?_ _ | with_reducible refine Bk.drew ?_ | with_reducible refine Bk.drewN ?_ _ | with_reducible refine Bk.step (by with_reducible assumption) ?_ (by first | omega | (simp <;> omega))))
  have hB1 : Below w.heap.size w w1 := (by repeat (first | with_reducible exact Below.refl _ _ | with_reducible assumption | with_reducible refine Below.drew ?_ | with_reducible refine Below.drewN ?_ _ | with_reducible refine Below.alloc2 ?_ _ | with_reducible refine Below.alloc ?_ (by first | omega | (simp <;> omega)) _ | with_reducible refine Below.setCell ?_ (by first | omega | (simp <;> omega)) _ | with_reducible refine Below.step2 (by with_reducible assumption) ?_ | with_reducible refine Below.step (by with_reducible assumption) ?_ (by first | omega | (simp <;> omega))))
  obtain ⟨⟨_, _, _, _, _, _⟩, -⟩ := kx1.six
  obtain ⟨_, _, _⟩ := ka1.three
  obtain ⟨_, _, _⟩ := kb1.three
  have ox1 := kx1.lt
  have oa1 := ka1.lt
  have ob1 := kb1.lt
  clear hb1
  go_wp2_with fail
  refine (C1.out _).mono ?_
  rintro e w2 ⟨hb2, rfl⟩
  have kx2 : Bk w2 w.heap.size 23 #[.int .i64 x1, .int .i64 y1, .int .i64 z1, .int .i64 x2, .int .i64 y2, .int .i64 z2] := (by repeat (first | with_reducible assumption | with_reducible exact Bk.at_ (by simp) | with_reducible refine Bk.alloc ?_ _ | with_reducible refine Bk.drew ?_ | with_reducible refine Bk.drewN ?_ _ | with_reducible refine Bk.step (by with_reducible assumption) ?_ (by first | omega | (simp <;> omega))))
  have ka2 : Bk w2 (w.heap.size + 1) 36 #[.int .i64 a1, .int .i64 a2, .int .i64 a3] := (by repeat (first | with_reducible assumption | with_reducible exact Bk.at_ (by simp) | with_reducible refine Bk.alloc ?_ _ | with_reducible refine Bk.drew ?_ | with_reducible refine Bk.drewN ?_ _ | with_reducible refine Bk.step (by with_reducible assumption) ?_ (by first | omega | (simp <;> omega))))
  have kb2 : Bk w2 (w.heap.size + 1 + 1) 36 #[.int .i64 b1, .int .i64 b2, .int .i64 b3] := (by repeat (first | with_reducible assumption | with_reducible exact Bk.at_ (by simp) | with_reducible refine Bk.alloc ?_ _ | with_reducible refine Bk.drew ?_ | with_reducible refine Bk.drewN ?_ _ | with_reducible refine Bk.step (by with_reducible assumption) ?_ (by first | omega | (simp <;> omega))))
  have hB2 : Below w.heap.size w w2 := (by repeat (first | with_reducible exact Below.refl _ _ | with_reducible assumption | with_reducible refine Below.drew ?_ | with_reducible refine Below.drewN ?_ _ | with_reducible refine Below.alloc2 ?_ _ | with_reducible refine Below.alloc ?_ (by first | omega | (simp <;> omega)) _ | with_reducible refine Below.setCell ?_ (by first | omega | (simp <;> omega)) _ | with_reducible refine Below.step2 (by with_reducible assumption) ?_ | with_reducible refine Below.step (by with_reducible assumption) ?_ (by first | omega | (simp <;> omega))))
  obtain ⟨⟨_, _, _, _, _, _⟩, -⟩ := kx2.six
  obtain ⟨_, _, _⟩ := ka2.three
  obtain ⟨_, _, _⟩ := kb2.three
  have ox2 := kx2.lt
  have oa2 := ka2.lt
  have ob2 := kb2.lt
  clear hb2
  go_wp2_with fail
  refine (C2.out _).mono ?_
  rintro e w3 ⟨hb3, rfl⟩
  have kx3 : Bk w3 w.heap.size 23 #[.int .i64 x1, .int .i64 y1, .int .i64 z1, .int .i64 x2, .int .i64 y2, .int .i64 z2] := (by repeat (first | with_reducible assumption | with_reducible exact Bk.at_ (by simp) | with_reducible refine Bk.alloc ?_ _ | with_reducible refine Bk.drew ?_ | with_reducible refine Bk.drewN ?_ _ | with_reducible refine Bk.step (by with_reducible assumption) ?_ (by first | omega | (simp <;> omega))))
  have ka3 : Bk w3 (w.heap.size + 1) 36 #[.int .i64 a1, .int .i64 a2, .int .i64 a3] := (by repeat (first | with_reducible assumption | with_reducible exact Bk.at_ (by simp) | with_reducible refine Bk.alloc ?_ _ | with_reducible refine Bk.drew ?_ | with_reducible refine Bk.drewN ?_ _ | with_reducible refine Bk.step (by with_reducible assumption) ?_ (by first | omega | (simp <;> omega))))
  have kb3 : Bk w3 (w.heap.size + 1 + 1) 36 #[.int .i64 b1, .int .i64 b2, .int .i64 b3] := (by repeat (first | with_reducible assumption | with_reducible exact Bk.at_ (by simp) | with_reducible refine Bk.alloc ?_ _ | with_reducible refine Bk.drew ?_ | with_reducible refine Bk.drewN ?_ _ | with_reducible refine Bk.step (by with_reducible assumption) ?_ (by first | omega | (simp <;> omega))))
  have hB3 : Below w.heap.size w w3 := (by repeat (first | with_reducible exact Below.refl _ _ | with_reducible assumption | with_reducible refine Below.drew ?_ | with_reducible refine Below.drewN ?_ _ | with_reducible refine Below.alloc2 ?_ _ | with_reducible refine Below.alloc ?_ (by first | omega | (simp <;> omega)) _ | with_reducible refine Below.setCell ?_ (by first | omega | (simp <;> omega)) _ | with_reducible refine Below.step2 (by with_reducible assumption) ?_ | with_reducible refine Below.step (by with_reducible assumption) ?_ (by first | omega | (simp <;> omega))))
  obtain ⟨⟨_, _, _, _, _, _⟩, -⟩ := kx3.six
  obtain ⟨_, _, _⟩ := ka3.three
  obtain ⟨_, _, _⟩ := kb3.three
  have ox3 := kx3.lt
  have oa3 := ka3.lt
  have ob3 := kb3.lt
  clear hb3
  go_wp2_with fail
  refine (C3.out _).mono ?_
  rintro e w4 ⟨hb4, rfl⟩
  have kx4 : Bk w4 w.heap.size 23 #[.int .i64 x1, .int .i64 y1, .int .i64 z1, .int .i64 x2, .int .i64 y2, .int .i64 z2] := (by repeat (first | with_reducible assumption | with_reducible exact Bk.at_ (by simp) | with_reducible refine Bk.alloc ?_ _ | with_reducible refine Bk.drew ?_ | with_reducible refine Bk.drewN ?_ _ | with_reducible refine Bk.step (by with_reducible assumption) ?_ (by first | omega | (simp <;> omega))))
  have ka4 : Bk w4 (w.heap.size + 1) 36 #[.int .i64 a1, .int .i64 a2, .int .i64 a3] := (by repeat (first | with_reducible assumption | with_reducible exact Bk.at_ (by simp) | with_reducible refine Bk.alloc ?_ _ | with_reducible refine Bk.drew ?_ | with_reducible refine Bk.drewN ?_ _ | with_reducible refine Bk.step (by with_reducible assumption) ?_ (by first | omega | (simp <;> omega))))
  have kb4 : Bk w4 (w.heap.size + 1 + 1) 36 #[.int .i64 b1, .int .i64 b2, .int .i64 b3] := (by repeat (first | with_reducible assumption | with_reducible exact Bk.at_ (by simp) | with_reducible refine Bk.alloc ?_ _ | with_reducible refine Bk.drew ?_ | with_reducible refine Bk.drewN ?_ _ | with_reducible refine Bk.step (by with_reducible assumption) ?_ (by first | omega | (simp <;> omega))))
  have hB4 : Below w.heap.size w w4 := (by repeat (first | with_reducible exact Below.refl _ _ | with_reducible assumption | with_reducible refine Below.drew ?_ | with_reducible refine Below.drewN ?_ _ | with_reducible refine Below.alloc2 ?_ _ | with_reducible refine Below.alloc ?_ (by first | omega | (simp <;> omega)) _ | with_reducible refine Below.setCell ?_ (by first | omega | (simp <;> omega)) _ | with_reducible refine Below.step2 (by with_reducible assumption) ?_ | with_reducible refine Below.step (by with_reducible assumption) ?_ (by first | omega | (simp <;> omega))))
  obtain ⟨⟨_, _, _, _, _, _⟩, -⟩ := kx4.six
  obtain ⟨_, _, _⟩ := ka4.three
  obtain ⟨_, _, _⟩ := kb4.three
  have ox4 := kx4.lt
  have oa4 := ka4.lt
  have ob4 := kb4.lt
  clear hb4
  go_wp2_with fail
  refine (C4.out _).mono ?_
  rintro e w5 ⟨hb5, rfl⟩
  have kx5 : Bk w5 w.heap.size 23 #[.int .i64 x1, .int .i64 y1, .int .i64 z1, .int .i64 x2, .int .i64 y2, .int .i64 z2] := (by repeat (first | with_reducible assumption | with_reducible exact Bk.at_ (by simp) | with_reducible refine Bk.alloc ?_ _ | with_reducible refine Bk.drew ?_ | with_reducible refine Bk.drewN ?_ _ | with_reducible refine Bk.step (by with_reducible assumption) ?_ (by first | omega | (simp <;> omega))))
  have ka5 : Bk w5 (w.heap.size + 1) 36 #[.int .i64 a1, .int .i64 a2, .int .i64 a3] := (by repeat (first | with_reducible assumption | with_reducible exact Bk.at_ (by simp) | with_reducible refine Bk.alloc ?_ _ | with_reducible refine Bk.drew ?_ | with_reducible refine Bk.drewN ?_ _ | with_reducible refine Bk.step (by with_reducible assumption) ?_ (by first | omega | (simp <;> omega))))
  have kb5 : Bk w5 (w.heap.size + 1 + 1) 36 #[.int .i64 b1, .int .i64 b2, .int .i64 b3] := (by repeat (first | with_reducible assumption | with_reducible exact Bk.at_ (by simp) | with_reducible refine Bk.alloc ?_ _ | with_reducible refine Bk.drew ?_ | with_reducible refine Bk.drewN ?_ _ | with_reducible refine Bk.step (by with_reducible assumption) ?_ (by first | omega | (simp <;> omega))))
  have hB5 : Below w.heap.size w w5 := (by repeat (first | with_reducible exact Below.refl _ _ | with_reducible assumption | with_reducible refine Below.drew ?_ | with_reducible refine Below.drewN ?_ _ | with_reducible refine Below.alloc2 ?_ _ | with_reducible refine Below.alloc ?_ (by first | omega | (simp <;> omega)) _ | with_reducible refine Below.setCell ?_ (by first | omega | (simp <;> omega)) _ | with_reducible refine Below.step2 (by with_reducible assumption) ?_ | with_reducible refine Below.step (by with_reducible assumption) ?_ (by first | omega | (simp <;> omega))))
  obtain ⟨⟨_, _, _, _, _, _⟩, -⟩ := kx5.six
  obtain ⟨_, _, _⟩ := ka5.three
  obtain ⟨_, _, _⟩ := kb5.three
  have ox5 := kx5.lt
  have oa5 := ka5.lt
  have ob5 := kb5.lt
  clear hb5
  go_wp2_with fail
  refine (C5.out _).mono ?_
  rintro e w6 ⟨hb6, rfl⟩
  have kx6 : Bk w6 w.heap.size 23 #[.int .i64 x1, .int .i64 y1, .int .i64 z1, .int .i64 x2, .int .i64 y2, .int .i64 z2] := (by repeat (first | with_reducible assumption | with_reducible exact Bk.at_ (by simp) | with_reducible refine Bk.alloc ?_ _ | with_reducible refine Bk.drew ?_ | with_reducible refine Bk.drewN ?_ _ | with_reducible refine Bk.step (by with_reducible assumption) ?_ (by first | omega | (simp <;> omega))))
  have ka6 : Bk w6 (w.heap.size + 1) 36 #[.int .i64 a1, .int .i64 a2, .int .i64 a3] := (by repeat (first | with_reducible assumption | with_reducible exact Bk.at_ (by simp) | with_reducible refine Bk.alloc ?_ _ | with_reducible refine Bk.drew ?_ | with_reducible refine Bk.drewN ?_ _ | with_reducible refine Bk.step (by with_reducible assumption) ?_ (by first | omega | (simp <;> omega))))
  have kb6 : Bk w6 (w.heap.size + 1 + 1) 36 #[.int .i64 b1, .int .i64 b2, .int .i64 b3] := (by repeat (first | with_reducible assumption | with_reducible exact Bk.at_ (by simp) | with_reducible refine Bk.alloc ?_ _ | with_reducible refine Bk.drew ?_ | with_reducible refine Bk.drewN ?_ _ | with_reducible refine Bk.step (by with_reducible assumption) ?_ (by first | omega | (simp <;> omega))))
  have hB6 : Below w.heap.size w w6 := (by repeat (first | with_reducible exact Below.refl _ _ | with_reducible assumption | with_reducible refine Below.drew ?_ | with_reducible refine Below.drewN ?_ _ | with_reducible refine Below.alloc2 ?_ _ | with_reducible refine Below.alloc ?_ (by first | omega | (simp <;> omega)) _ | with_reducible refine Below.setCell ?_ (by first | omega | (simp <;> omega)) _ | with_reducible refine Below.step2 (by with_reducible assumption) ?_ | with_reducible refine Below.step (by with_reducible assumption) ?_ (by first | omega | (simp <;> omega))))
  obtain ⟨⟨_, _, _, _, _, _⟩, -⟩ := kx6.six
  obtain ⟨_, _, _⟩ := ka6.three
  obtain ⟨_, _, _⟩ := kb6.three
  have ox6 := kx6.lt
  have oa6 := ka6.lt
  have ob6 := kb6.lt
  clear hb6
  go_wp2
  go_ret
  exact ⟨(by repeat (first | with_reducible exact Below.refl _ _ | with_reducible assumption | with_reducible refine Below.drew ?_ | with_reducible refine Below.drewN ?_ _ | with_reducible refine Below.alloc2 ?_ _ | with_reducible refine Below.alloc ?_ (by first | omega | (simp <;> omega)) _ | with_reducible refine Below.setCell ?_ (by first | omega | (simp <;> omega)) _ | with_reducible refine Below.step2 (by with_reducible assumption) ?_ | with_reducible refine Below.step (by with_reducible assumption) ?_ (by first | omega | (simp <;> omega)))), by simp⟩

set_option maxHeartbeats 2000000 in
theorem lawPierces_d (x1 y1 z1 x2 y2 z2 a1 a2 a3 b1 b2 b3 : Int) (R : Bool) (w : World) (c1 : Tells Try.prog 16 #[.agg #[.int .i64 x1, .int .i64 y1, .int .i64 z1, .int .i64 x2, .int .i64 y2, .int .i64 z2], .agg #[.int .i64 a1, .int .i64 a2, .int .i64 a3], .agg #[.int .i64 b1, .int .i64 b2, .int .i64 b3]] (.tuple #[.bool R, .int .i64 0])) (c2 : Tells Try.prog 16 #[.agg #[.int .i64 x1, .int .i64 y1, .int .i64 z1, .int .i64 x2, .int .i64 y2, .int .i64 z2], .agg #[.int .i64 b1, .int .i64 b2, .int .i64 b3], .agg #[.int .i64 a1, .int .i64 a2, .int .i64 a3]] (.tuple #[.bool R, .int .i64 0]))
    (c3 : Tells Try.prog 13 #[.agg #[.int .i64 x1, .int .i64 y1, .int .i64 z1, .int .i64 x2, .int .i64 y2, .int .i64 z2]] (.int .i64 0)) (c4 : Tells Try.prog 17 #[.agg #[.int .i64 a1, .int .i64 a2, .int .i64 a3]] (.int .i64 0)) (c5 : Tells Try.prog 17 #[.agg #[.int .i64 b1, .int .i64 b2, .int .i64 b3]] (.int .i64 0))
    (c6 : Tells Try.prog 18 #[.agg #[.int .i64 x1, .int .i64 y1, .int .i64 z1, .int .i64 x2, .int .i64 y2, .int .i64 z2], .agg #[.int .i64 a1, .int .i64 a2, .int .i64 a3], .agg #[.int .i64 b1, .int .i64 b2, .int .i64 b3]] (.bool R)) :
    Calls Try.prog 4 #[.agg #[.int .i64 x1, .int .i64 y1, .int .i64 z1, .int .i64 x2, .int .i64 y2, .int .i64 z2], .agg #[.int .i64 a1, .int .i64 a2, .int .i64 a3], .agg #[.int .i64 b1, .int .i64 b2, .int .i64 b3]] w fun e w' => Below w.heap.size w w' ∧ e = .returned (.bool true) := by
  have C1 := Lib.hid c1
  have C2 := Lib.hid c2
  have C3 := Lib.hid c3
  clear c1 c2 c3
  have C4 := Lib.hid c4
  have C5 := Lib.hid c5
  have C6 := Lib.hid c6
  clear c4 c5 c6
  cases R
  all_goals
    go_enter Try.func4, Try.ntmps4
    go_wp2_with fail
    refine (awake_any _).mono ?_
    rintro e w1 ⟨hb1, rfl⟩
    have kx1 : Bk w1 w.heap.size 23 #[.int .i64 x1, .int .i64 y1, .int .i64 z1, .int .i64 x2, .int .i64 y2, .int .i64 z2] := (by repeat (first | with_reducible assumption | with_reducible exact Bk.at_ (by simp) | with_reducible refine Bk.alloc ?_ _ | with_reducible refine Bk.drew ?_ | with_reducible refine Bk.drewN ?_ _ | with_reducible refine Bk.step (by with_reducible assumption) ?_ (by first | omega | (simp <;> omega))))
    have ka1 : Bk w1 (w.heap.size + 1) 36 #[.int .i64 a1, .int .i64 a2, .int .i64 a3] := (by repeat (first | with_reducible assumption | with_reducible exact Bk.at_ (by simp) | with_reducible refine Bk.alloc ?_ _ | with_reducible refine Bk.drew ?_ | with_reducible refine Bk.drewN ?_ _ | with_reducible refine Bk.step (by with_reducible assumption) ?_ (by first | omega | (simp <;> omega))))
    have kb1 : Bk w1 (w.heap.size + 1 + 1) 36 #[.int .i64 b1, .int .i64 b2, .int .i64 b3] := (by repeat (first | with_reducible assumption | with_reducible exact Bk.at_ (by simp) | with_reducible refine Bk.alloc ?_ _ | with_reducible refine Bk.drew ?_ | with_reducible refine Bk.drewN ?_ _ | with_reducible refine Bk.step (by with_reducible assumption) ?_ (by first | omega | (simp <;> omega))))
    have hB1 : Below w.heap.size w w1 := (by repeat (first | with_reducible exact Below.refl _ _ | with_reducible assumption | with_reducible refine Below.drew ?_ | with_reducible refine Below.drewN ?_ _ | with_reducible refine Below.alloc2 ?_ _ | with_reducible refine Below.alloc ?_ (by first | omega | (simp <;> omega)) _ | with_reducible refine Below.setCell ?_ (by first | omega | (simp <;> omega)) _ | with_reducible refine Below.step2 (by with_reducible assumption) ?_ | with_reducible refine Below.step (by with_reducible assumption) ?_ (by first | omega | (simp <;> omega))))
    obtain ⟨⟨_, _, _, _, _, _⟩, -⟩ := kx1.six
    obtain ⟨_, _, _⟩ := ka1.three
    obtain ⟨_, _, _⟩ := kb1.three
    have ox1 := kx1.lt
    have oa1 := ka1.lt
    have ob1 := kb1.lt
    clear hb1
    go_wp2_with fail
    refine (C1.out _).mono ?_
    rintro e w2 ⟨hb2, rfl⟩
    have kx2 : Bk w2 w.heap.size 23 #[.int .i64 x1, .int .i64 y1, .int .i64 z1, .int .i64 x2, .int .i64 y2, .int .i64 z2] := (by repeat (first | with_reducible assumption | with_reducible exact Bk.at_ (by simp) | with_reducible refine Bk.alloc ?_ _ | with_reducible refine Bk.drew ?_ | with_reducible refine Bk.drewN ?_ _ | with_reducible refine Bk.step (by with_reducible assumption) ?_ (by first | omega | (simp <;> omega))))
    have ka2 : Bk w2 (w.heap.size + 1) 36 #[.int .i64 a1, .int .i64 a2, .int .i64 a3] := (by repeat (first | with_reducible assumption | with_reducible exact Bk.at_ (by simp) | with_reducible refine Bk.alloc ?_ _ | with_reducible refine Bk.drew ?_ | with_reducible refine Bk.drewN ?_ _ | with_reducible refine Bk.step (by with_reducible assumption) ?_ (by first | omega | (simp <;> omega))))
    have kb2 : Bk w2 (w.heap.size + 1 + 1) 36 #[.int .i64 b1, .int .i64 b2, .int .i64 b3] := (by repeat (first | with_reducible assumption | with_reducible exact Bk.at_ (by simp) | with_reducible refine Bk.alloc ?_ _ | with_reducible refine Bk.drew ?_ | with_reducible refine Bk.drewN ?_ _ | with_reducible refine Bk.step (by with_reducible assumption) ?_ (by first | omega | (simp <;> omega))))
    have hB2 : Below w.heap.size w w2 := (by repeat (first | with_reducible exact Below.refl _ _ | with_reducible assumption | with_reducible refine Below.drew ?_ | with_reducible refine Below.drewN ?_ _ | with_reducible refine Below.alloc2 ?_ _ | with_reducible refine Below.alloc ?_ (by first | omega | (simp <;> omega)) _ | with_reducible refine Below.setCell ?_ (by first | omega | (simp <;> omega)) _ | with_reducible refine Below.step2 (by with_reducible assumption) ?_ | with_reducible refine Below.step (by with_reducible assumption) ?_ (by first | omega | (simp <;> omega))))
    obtain ⟨⟨_, _, _, _, _, _⟩, -⟩ := kx2.six
    obtain ⟨_, _, _⟩ := ka2.three
    obtain ⟨_, _, _⟩ := kb2.three
    have ox2 := kx2.lt
    have oa2 := ka2.lt
    have ob2 := kb2.lt
    clear hb2
    go_wp2_with fail
    refine (C2.out _).mono ?_
    rintro e w3 ⟨hb3, rfl⟩
    have kx3 : Bk w3 w.heap.size 23 #[.int .i64 x1, .int .i64 y1, .int .i64 z1, .int .i64 x2, .int .i64 y2, .int .i64 z2] := (by repeat (first | with_reducible assumption | with_reducible exact Bk.at_ (by simp) | with_reducible refine Bk.alloc ?_ _ | with_reducible refine Bk.drew ?_ | with_reducible refine Bk.drewN ?_ _ | with_reducible refine Bk.step (by with_reducible assumption) ?_ (by first | omega | (simp <;> omega))))
    have ka3 : Bk w3 (w.heap.size + 1) 36 #[.int .i64 a1, .int .i64 a2, .int .i64 a3] := (by repeat (first | with_reducible assumption | with_reducible exact Bk.at_ (by simp) | with_reducible refine Bk.alloc ?_ _ | with_reducible refine Bk.drew ?_ | with_reducible refine Bk.drewN ?_ _ | with_reducible refine Bk.step (by with_reducible assumption) ?_ (by first | omega | (simp <;> omega))))
    have kb3 : Bk w3 (w.heap.size + 1 + 1) 36 #[.int .i64 b1, .int .i64 b2, .int .i64 b3] := (by repeat (first | with_reducible assumption | with_reducible exact Bk.at_ (by simp) | with_reducible refine Bk.alloc ?_ _ | with_reducible refine Bk.drew ?_ | with_reducible refine Bk.drewN ?_ _ | with_reducible refine Bk.step (by with_reducible assumption) ?_ (by first | omega | (simp <;> omega))))
    have hB3 : Below w.heap.size w w3 := (by repeat (first | with_reducible exact Below.refl _ _ | with_reducible assumption | with_reducible refine Below.drew ?_ | with_reducible refine Below.drewN ?_ _ | with_reducible refine Below.alloc2 ?_ _ | with_reducible refine Below.alloc ?_ (by first | omega | (simp <;> omega)) _ | with_reducible refine Below.setCell ?_ (by first | omega | (simp <;> omega)) _ | with_reducible refine Below.step2 (by with_reducible assumption) ?_ | with_reducible refine Below.step (by with_reducible assumption) ?_ (by first | omega | (simp <;> omega))))
    obtain ⟨⟨_, _, _, _, _, _⟩, -⟩ := kx3.six
    obtain ⟨_, _, _⟩ := ka3.three
    obtain ⟨_, _, _⟩ := kb3.three
    have ox3 := kx3.lt
    have oa3 := ka3.lt
    have ob3 := kb3.lt
    clear hb3
    go_wp2_with fail
    refine (C3.out _).mono ?_
    rintro e w4 ⟨hb4, rfl⟩
    have kx4 : Bk w4 w.heap.size 23 #[.int .i64 x1, .int .i64 y1, .int .i64 z1, .int .i64 x2, .int .i64 y2, .int .i64 z2] := (by repeat (first | with_reducible assumption | with_reducible exact Bk.at_ (by simp) | with_reducible refine Bk.alloc ?_ _ | with_reducible refine Bk.drew ?_ | with_reducible refine Bk.drewN ?_ _ | with_reducible refine Bk.step (by with_reducible assumption) ?_ (by first | omega | (simp <;> omega))))
    have ka4 : Bk w4 (w.heap.size + 1) 36 #[.int .i64 a1, .int .i64 a2, .int .i64 a3] := (by repeat (first | with_reducible assumption | with_reducible exact Bk.at_ (by simp) | with_reducible refine Bk.alloc ?_ _ | with_reducible refine Bk.drew ?_ | with_reducible refine Bk.drewN ?_ _ | with_reducible refine Bk.step (by with_reducible assumption) ?_ (by first | omega | (simp <;> omega))))
    have kb4 : Bk w4 (w.heap.size + 1 + 1) 36 #[.int .i64 b1, .int .i64 b2, .int .i64 b3] := (by repeat (first | with_reducible assumption | with_reducible exact Bk.at_ (by simp) | with_reducible refine Bk.alloc ?_ _ | with_reducible refine Bk.drew ?_ | with_reducible refine Bk.drewN ?_ _ | with_reducible refine Bk.step (by with_reducible assumption) ?_ (by first | omega | (simp <;> omega))))
    have hB4 : Below w.heap.size w w4 := (by repeat (first | with_reducible exact Below.refl _ _ | with_reducible assumption | with_reducible refine Below.drew ?_ | with_reducible refine Below.drewN ?_ _ | with_reducible refine Below.alloc2 ?_ _ | with_reducible refine Below.alloc ?_ (by first | omega | (simp <;> omega)) _ | with_reducible refine Below.setCell ?_ (by first | omega | (simp <;> omega)) _ | with_reducible refine Below.step2 (by with_reducible assumption) ?_ | with_reducible refine Below.step (by with_reducible assumption) ?_ (by first | omega | (simp <;> omega))))
    obtain ⟨⟨_, _, _, _, _, _⟩, -⟩ := kx4.six
    obtain ⟨_, _, _⟩ := ka4.three
    obtain ⟨_, _, _⟩ := kb4.three
    have ox4 := kx4.lt
    have oa4 := ka4.lt
    have ob4 := kb4.lt
    clear hb4
    go_wp2_with fail
    refine (C4.out _).mono ?_
    rintro e w5 ⟨hb5, rfl⟩
    have kx5 : Bk w5 w.heap.size 23 #[.int .i64 x1, .int .i64 y1, .int .i64 z1, .int .i64 x2, .int .i64 y2, .int .i64 z2] := (by repeat (first | with_reducible assumption | with_reducible exact Bk.at_ (by simp) | with_reducible refine Bk.alloc ?_ _ | with_reducible refine Bk.drew ?_ | with_reducible refine Bk.drewN ?_ _ | with_reducible refine Bk.step (by with_reducible assumption) ?_ (by first | omega | (simp <;> omega))))
    have ka5 : Bk w5 (w.heap.size + 1) 36 #[.int .i64 a1, .int .i64 a2, .int .i64 a3] := (by repeat (first | with_reducible assumption | with_reducible exact Bk.at_ (by simp) | with_reducible refine Bk.alloc ?_ _ | with_reducible refine Bk.drew ?_ | with_reducible refine Bk.drewN ?_ _ | with_reducible refine Bk.step (by with_reducible assumption) ?_ (by first | omega | (simp <;> omega))))
    have kb5 : Bk w5 (w.heap.size + 1 + 1) 36 #[.int .i64 b1, .int .i64 b2, .int .i64 b3] := (by repeat (first | with_reducible assumption | with_reducible exact Bk.at_ (by simp) | with_reducible refine Bk.alloc ?_ _ | with_reducible refine Bk.drew ?_ | with_reducible refine Bk.drewN ?_ _ | with_reducible refine Bk.step (by with_reducible assumption) ?_ (by first | omega | (simp <;> omega))))
    have hB5 : Below w.heap.size w w5 := (by repeat (first | with_reducible exact Below.refl _ _ | with_reducible assumption | with_reducible refine Below.drew ?_ | with_reducible refine Below.drewN ?_ _ | with_reducible refine Below.alloc2 ?_ _ | with_reducible refine Below.alloc ?_ (by first | omega | (simp <;> omega)) _ | with_reducible refine Below.setCell ?_ (by first | omega | (simp <;> omega)) _ | with_reducible refine Below.step2 (by with_reducible assumption) ?_ | with_reducible refine Below.step (by with_reducible assumption) ?_ (by first | omega | (simp <;> omega))))
    obtain ⟨⟨_, _, _, _, _, _⟩, -⟩ := kx5.six
    obtain ⟨_, _, _⟩ := ka5.three
    obtain ⟨_, _, _⟩ := kb5.three
    have ox5 := kx5.lt
    have oa5 := ka5.lt
    have ob5 := kb5.lt
    clear hb5
    go_wp2_with fail
    refine (C5.out _).mono ?_
    rintro e w6 ⟨hb6, rfl⟩
    have kx6 : Bk w6 w.heap.size 23 #[.int .i64 x1, .int .i64 y1, .int .i64 z1, .int .i64 x2, .int .i64 y2, .int .i64 z2] := (by repeat (first | with_reducible assumption | with_reducible exact Bk.at_ (by simp) | with_reducible refine Bk.alloc ?_ _ | with_reducible refine Bk.drew ?_ | with_reducible refine Bk.drewN ?_ _ | with_reducible refine Bk.step (by with_reducible assumption) ?_ (by first | omega | (simp <;> omega))))
    have ka6 : Bk w6 (w.heap.size + 1) 36 #[.int .i64 a1, .int .i64 a2, .int .i64 a3] := (by repeat (first | with_reducible assumption | with_reducible exact Bk.at_ (by simp) | with_reducible refine Bk.alloc ?_ _ | with_reducible refine Bk.drew ?_ | with_reducible refine Bk.drewN ?_ _ | with_reducible refine Bk.step (by with_reducible assumption) ?_ (by first | omega | (simp <;> omega))))
    have kb6 : Bk w6 (w.heap.size + 1 + 1) 36 #[.int .i64 b1, .int .i64 b2, .int .i64 b3] := (by repeat (first | with_reducible assumption | with_reducible exact Bk.at_ (by simp) | with_reducible refine Bk.alloc ?_ _ | with_reducible refine Bk.drew ?_ | with_reducible refine Bk.drewN ?_ _ | with_reducible refine Bk.step (by with_reducible assumption) ?_ (by first | omega | (simp <;> omega))))
    have hB6 : Below w.heap.size w w6 := (by repeat (first | with_reducible exact Below.refl _ _ | with_reducible assumption | with_reducible refine Below.drew ?_ | with_reducible refine Below.drewN ?_ _ | with_reducible refine Below.alloc2 ?_ _ | with_reducible refine Below.alloc ?_ (by first | omega | (simp <;> omega)) _ | with_reducible refine Below.setCell ?_ (by first | omega | (simp <;> omega)) _ | with_reducible refine Below.step2 (by with_reducible assumption) ?_ | with_reducible refine Below.step (by with_reducible assumption) ?_ (by first | omega | (simp <;> omega))))
    obtain ⟨⟨_, _, _, _, _, _⟩, -⟩ := kx6.six
    obtain ⟨_, _, _⟩ := ka6.three
    obtain ⟨_, _, _⟩ := kb6.three
    have ox6 := kx6.lt
    have oa6 := ka6.lt
    have ob6 := kb6.lt
    clear hb6
    go_wp2_with fail
    refine (C6.out _).mono ?_
    rintro e w7 ⟨hb7, rfl⟩
    have kx7 : Bk w7 w.heap.size 23 #[.int .i64 x1, .int .i64 y1, .int .i64 z1, .int .i64 x2, .int .i64 y2, .int .i64 z2] := (by repeat (first | with_reducible assumption | with_reducible exact Bk.at_ (by simp) | with_reducible refine Bk.alloc ?_ _ | with_reducible refine Bk.drew ?_ | with_reducible refine Bk.drewN ?_ _ | with_reducible refine Bk.step (by with_reducible assumption) ?_ (by first | omega | (simp <;> omega))))
    have ka7 : Bk w7 (w.heap.size + 1) 36 #[.int .i64 a1, .int .i64 a2, .int .i64 a3] := (by repeat (first | with_reducible assumption | with_reducible exact Bk.at_ (by simp) | with_reducible refine Bk.alloc ?_ _ | with_reducible refine Bk.drew ?_ | with_reducible refine Bk.drewN ?_ _ | with_reducible refine Bk.step (by with_reducible assumption) ?_ (by first | omega | (simp <;> omega))))
    have kb7 : Bk w7 (w.heap.size + 1 + 1) 36 #[.int .i64 b1, .int .i64 b2, .int .i64 b3] := (by repeat (first | with_reducible assumption | with_reducible exact Bk.at_ (by simp) | with_reducible refine Bk.alloc ?_ _ | with_reducible refine Bk.drew ?_ | with_reducible refine Bk.drewN ?_ _ | with_reducible refine Bk.step (by with_reducible assumption) ?_ (by first | omega | (simp <;> omega))))
    have hB7 : Below w.heap.size w w7 := (by repeat (first | with_reducible exact Below.refl _ _ | with_reducible assumption | with_reducible refine Below.drew ?_ | with_reducible refine Below.drewN ?_ _ | with_reducible refine Below.alloc2 ?_ _ | with_reducible refine Below.alloc ?_ (by first | omega | (simp <;> omega)) _ | with_reducible refine Below.setCell ?_ (by first | omega | (simp <;> omega)) _ | with_reducible refine Below.step2 (by with_reducible assumption) ?_ | with_reducible refine Below.step (by with_reducible assumption) ?_ (by first | omega | (simp <;> omega))))
    obtain ⟨⟨_, _, _, _, _, _⟩, -⟩ := kx7.six
    obtain ⟨_, _, _⟩ := ka7.three
    obtain ⟨_, _, _⟩ := kb7.three
    have ox7 := kx7.lt
    have oa7 := ka7.lt
    have ob7 := kb7.lt
    clear hb7
    go_wp2
    go_ret
    exact ⟨(by repeat (first | with_reducible exact Below.refl _ _ | with_reducible assumption | with_reducible refine Below.drew ?_ | with_reducible refine Below.drewN ?_ _ | with_reducible refine Below.alloc2 ?_ _ | with_reducible refine Below.alloc ?_ (by first | omega | (simp <;> omega)) _ | with_reducible refine Below.setCell ?_ (by first | omega | (simp <;> omega)) _ | with_reducible refine Below.step2 (by with_reducible assumption) ?_ | with_reducible refine Below.step (by with_reducible assumption) ?_ (by first | omega | (simp <;> omega)))), rfl⟩

theorem lawPierces_any (x1 y1 z1 x2 y2 z2 a1 a2 a3 b1 b2 b3 : Int) (w : World) : Calls Try.prog 4 #[.agg #[.int .i64 x1, .int .i64 y1, .int .i64 z1, .int .i64 x2, .int .i64 y2, .int .i64 z2], .agg #[.int .i64 a1, .int .i64 a2, .int .i64 a3], .agg #[.int .i64 b1, .int .i64 b2, .int .i64 b3]] w fun e w' => Below w.heap.size w w' ∧ e = .returned (.bool true) := by
  have c3 : Tells Try.prog 13 #[.agg #[.int .i64 x1, .int .i64 y1, .int .i64 z1, .int .i64 x2, .int .i64 y2, .int .i64 z2]] (.int .i64 (boxErr x1 y1 z1 x2 y2 z2)) := fun W => refCheckBox_any x1 y1 z1 x2 y2 z2 W
  have c4 : Tells Try.prog 17 #[.agg #[.int .i64 a1, .int .i64 a2, .int .i64 a3]] (.int .i64 (nodeErr a1 a2 a3)) := fun W => nodeErr_any a1 a2 a3 W
  have c5 : Tells Try.prog 17 #[.agg #[.int .i64 b1, .int .i64 b2, .int .i64 b3]] (.int .i64 (nodeErr b1 b2 b3)) := fun W => nodeErr_any b1 b2 b3 W
  by_cases hx : boxErr x1 y1 z1 x2 y2 z2 = 0
  · rw [hx] at c3
    have c1 := fun W : World => pierces_any x1 y1 z1 x2 y2 z2 a1 a2 a3 b1 b2 b3 W hx
    have c2 := fun W : World => pierces_any x1 y1 z1 x2 y2 z2 b1 b2 b3 a1 a2 a3 W hx
    rcases nodeErr_or a1 a2 a3 with ha | ha
    · rcases nodeErr_or b1 b2 b3 with hb | hb
      · obtain ⟨⟨cx1, cy1, cz1⟩, cx2, cy2, cz2⟩ := boxErr_ok hx
        obtain ⟨ca1, ca2, ca3⟩ := nodeErr_ok ha
        obtain ⟨cb1, cb2, cb3⟩ := nodeErr_ok hb
        have c6 := fun W : World => refPierces_any x1 y1 z1 x2 y2 z2 a1 a2 a3 b1 b2 b3 W cx1 cy1 cz1 cx2 cy2 cz2 ca1 ca2 ca3 cb1 cb2 cb3
        rw [ha, hb, pierces_ref] at c1
        rw [ha, hb, pierces_ref, ref_rev] at c2
        rw [ha] at c4
        rw [hb] at c5
        exact lawPierces_d x1 y1 z1 x2 y2 z2 a1 a2 a3 b1 b2 b3 _ w c1 c2 c3 c4 c5 c6
      · rw [ha, hb] at c1 c2
        rw [ha] at c4
        rw [hb] at c5
        exact lawPierces_c x1 y1 z1 x2 y2 z2 a1 a2 a3 b1 b2 b3 2 w (by decide) c1 c2 c3 c4 c5
    · rw [ha] at c4
      rcases nodeErr_or b1 b2 b3 with hb | hb
      · rw [ha, hb] at c1 c2
        exact lawPierces_b x1 y1 z1 x2 y2 z2 a1 a2 a3 b1 b2 b3 2 w (by decide) c1 c2 c3 c4
      · rw [ha, hb] at c1 c2
        exact lawPierces_b x1 y1 z1 x2 y2 z2 a1 a2 a3 b1 b2 b3 2 w (by decide) c1 c2 c3 c4
  · exact lawPierces_a x1 y1 z1 x2 y2 z2 a1 a2 a3 b1 b2 b3 _ w hx (fun W => pierces_box x1 y1 z1 x2 y2 z2 a1 a2 a3 b1 b2 b3 W hx) (fun W => pierces_box x1 y1 z1 x2 y2 z2 b1 b2 b3 a1 a2 a3 W hx) c3

end Go.Proofs.Ytbfbjpnmgcpjlaa
