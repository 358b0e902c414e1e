/- The law BuildingBoxes, out of its callees' contracts. -/
import Derived.Test.YtbfbjpnmgcpjlaaBoxes
import Derived.Test.YtbfbjpnmgcpjlaaAwake
namespace Go.Proofs.Ytbfbjpnmgcpjlaa
open Go.RowKit


set_option maxHeartbeats 1000000 in
theorem lawBoxes_a (x1 y1 z1 x2 y2 z2 u1 v1 t1 u2 v2 t2 E : Int) (w : World) (aw : Tells Try.prog 10 #[] (.bool true)) (hE : E ≠ 0)
    (c1 : Tells Try.prog 11 #[.agg #[.int .i64 x1, .int .i64 y1, .int .i64 z1, .int .i64 x2, .int .i64 y2, .int .i64 z2], .agg #[.int .i64 u1, .int .i64 v1, .int .i64 t1, .int .i64 u2, .int .i64 v2, .int .i64 t2]] (.tuple #[.bool false, .int .i64 E]))
    (c2 : Tells Try.prog 12 #[.agg #[.int .i64 x1, .int .i64 y1, .int .i64 z1, .int .i64 x2, .int .i64 y2, .int .i64 z2], .agg #[.int .i64 u1, .int .i64 v1, .int .i64 t1, .int .i64 u2, .int .i64 v2, .int .i64 t2]] (.tuple #[.agg #[.int .i64 0, .int .i64 0, .int .i64 0, .int .i64 0, .int .i64 0, .int .i64 0], .int .i64 E]))
    (c3 : Tells Try.prog 13 #[.agg #[.int .i64 x1, .int .i64 y1, .int .i64 z1, .int .i64 x2, .int .i64 y2, .int .i64 z2]] (.int .i64 E)) (c4 : Tells Try.prog 14 #[.agg #[.int .i64 x1, .int .i64 y1, .int .i64 z1, .int .i64 x2, .int .i64 y2, .int .i64 z2]] (.int .i64 E)) :
    Calls Try.prog 3 #[.agg #[.int .i64 x1, .int .i64 y1, .int .i64 z1, .int .i64 x2, .int .i64 y2, .int .i64 z2], .agg #[.int .i64 u1, .int .i64 v1, .int .i64 t1, .int .i64 u2, .int .i64 v2, .int .i64 t2]] w fun e w' => Below w.heap.size w w' ∧ e = .returned (.bool true) := by
  have AW := Lib.hid aw
  have C1 := Lib.hid c1
  have C2 := Lib.hid c2
  have C3 := Lib.hid c3
  have C4 := Lib.hid c4
  have hne : (E != 0) = true := by simpa using hE
  have hne2 : (E == 0) = false := by simpa using hE
  clear aw c1 c2 c3 c4 hE
  go_enter Try.func3, Try.ntmps3
  go_wp2_with fail
  refine (AW.out _).mono ?_
  rintro e w1 ⟨hb1, rfl⟩; obtain ⟨hc1, hf1⟩ := bcell hb1; have hz1 := hb1.size; (try simp at hz1)
  have oA1 : w.heap.size < w1.heap.size := (by omega); have oB1 : w.heap.size + 1 < w1.heap.size := (by omega)
  go_wp2_with fail
  refine (C1.out _).mono ?_
  rintro e w2 ⟨hb2, rfl⟩; obtain ⟨hc2, hf2⟩ := bcell hb2; have hz2 := hb2.size; (try simp at hz2)
  have oA2 : w.heap.size < w2.heap.size := (by omega); have oB2 : w.heap.size + 1 < w2.heap.size := (by omega)
  go_wp2_with fail
  refine (C2.out _).mono ?_
  rintro e w3 ⟨hb3, rfl⟩; obtain ⟨hc3, hf3⟩ := bcell hb3; have hz3 := hb3.size; (try simp at hz3)
  have oA3 : w.heap.size < w3.heap.size := (by omega); have oB3 : w.heap.size + 1 < w3.heap.size := (by omega)
  go_wp2_with fail
  refine (C3.out _).mono ?_
  rintro e w4 ⟨hb4, rfl⟩; obtain ⟨hc4, hf4⟩ := bcell hb4; have hz4 := hb4.size; (try simp at hz4)
  have oA4 : w.heap.size < w4.heap.size := (by omega); have oB4 : w.heap.size + 1 < w4.heap.size := (by omega)
  have oC4 : w3.heap.size < w4.heap.size := by omega
  go_wp2_with fail
  refine (C4.out _).mono ?_
  rintro e w5 ⟨hb5, rfl⟩; obtain ⟨hc5, hf5⟩ := bcell hb5; have hz5 := hb5.size; (try simp at hz5)
  have oA5 : w.heap.size < w5.heap.size := (by omega); have oB5 : w.heap.size + 1 < w5.heap.size := (by omega)
  have oC5 : w3.heap.size < w5.heap.size := by omega
  go_wp2_with fail
  go_ret
  exact ⟨(by repeat (first | with_reducible exact Below.refl _ _ | with_reducible assumption | with_reducible refine Below.drew ?_ | with_reducible refine Below.drewN ?_ _ | with_reducible refine Below.alloc2 ?_ _ | with_reducible refine Below.alloc ?_ (by first | omega | (simp <;> omega)) _ | with_reducible refine Below.setCell ?_ (by first | omega | (simp <;> omega)) _ | with_reducible refine Below.step2 (by with_reducible assumption) ?_ | with_reducible refine Below.step (by with_reducible assumption) ?_ (by first | omega | (simp <;> omega)))), rfl⟩

set_option maxHeartbeats 1000000 in
theorem lawBoxes_b (x1 y1 z1 x2 y2 z2 u1 v1 t1 u2 v2 t2 E : Int) (w : World) (aw : Tells Try.prog 10 #[] (.bool true)) (hE : E ≠ 0)
    (c1 : Tells Try.prog 11 #[.agg #[.int .i64 x1, .int .i64 y1, .int .i64 z1, .int .i64 x2, .int .i64 y2, .int .i64 z2], .agg #[.int .i64 u1, .int .i64 v1, .int .i64 t1, .int .i64 u2, .int .i64 v2, .int .i64 t2]] (.tuple #[.bool false, .int .i64 E]))
    (c2 : Tells Try.prog 12 #[.agg #[.int .i64 x1, .int .i64 y1, .int .i64 z1, .int .i64 x2, .int .i64 y2, .int .i64 z2], .agg #[.int .i64 u1, .int .i64 v1, .int .i64 t1, .int .i64 u2, .int .i64 v2, .int .i64 t2]] (.tuple #[.agg #[.int .i64 0, .int .i64 0, .int .i64 0, .int .i64 0, .int .i64 0, .int .i64 0], .int .i64 E]))
    (c3 : Tells Try.prog 13 #[.agg #[.int .i64 x1, .int .i64 y1, .int .i64 z1, .int .i64 x2, .int .i64 y2, .int .i64 z2]] (.int .i64 0)) (c4 : Tells Try.prog 14 #[.agg #[.int .i64 x1, .int .i64 y1, .int .i64 z1, .int .i64 x2, .int .i64 y2, .int .i64 z2]] (.int .i64 0))
    (c5 : Tells Try.prog 13 #[.agg #[.int .i64 u1, .int .i64 v1, .int .i64 t1, .int .i64 u2, .int .i64 v2, .int .i64 t2]] (.int .i64 E)) :
    Calls Try.prog 3 #[.agg #[.int .i64 x1, .int .i64 y1, .int .i64 z1, .int .i64 x2, .int .i64 y2, .int .i64 z2], .agg #[.int .i64 u1, .int .i64 v1, .int .i64 t1, .int .i64 u2, .int .i64 v2, .int .i64 t2]] w fun e w' => Below w.heap.size w w' ∧ e = .returned (.bool true) := by
  have AW := Lib.hid aw
  have C1 := Lib.hid c1
  have C2 := Lib.hid c2
  have C3 := Lib.hid c3
  have C4 := Lib.hid c4
  have C5 := Lib.hid c5
  have hne : (E != 0) = true := by simpa using hE
  have hne2 : (E == 0) = false := by simpa using hE
  clear aw c1 c2 c3 c4 c5 hE
  go_enter Try.func3, Try.ntmps3
  go_wp2_with fail
  refine (AW.out _).mono ?_
  rintro e w1 ⟨hb1, rfl⟩; obtain ⟨hc1, hf1⟩ := bcell hb1; have hz1 := hb1.size; (try simp at hz1)
  have oA1 : w.heap.size < w1.heap.size := (by omega); have oB1 : w.heap.size + 1 < w1.heap.size := (by omega)
  go_wp2_with fail
  refine (C1.out _).mono ?_
  rintro e w2 ⟨hb2, rfl⟩; obtain ⟨hc2, hf2⟩ := bcell hb2; have hz2 := hb2.size; (try simp at hz2)
  have oA2 : w.heap.size < w2.heap.size := (by omega); have oB2 : w.heap.size + 1 < w2.heap.size := (by omega)
  go_wp2_with fail
  refine (C2.out _).mono ?_
  rintro e w3 ⟨hb3, rfl⟩; obtain ⟨hc3, hf3⟩ := bcell hb3; have hz3 := hb3.size; (try simp at hz3)
  have oA3 : w.heap.size < w3.heap.size := (by omega); have oB3 : w.heap.size + 1 < w3.heap.size := (by omega)
  go_wp2_with fail
  refine (C3.out _).mono ?_
  rintro e w4 ⟨hb4, rfl⟩; obtain ⟨hc4, hf4⟩ := bcell hb4; have hz4 := hb4.size; (try simp at hz4)
  have oA4 : w.heap.size < w4.heap.size := (by omega); have oB4 : w.heap.size + 1 < w4.heap.size := (by omega)
  have oC4 : w3.heap.size < w4.heap.size := by omega
  go_wp2_with fail
  refine (C4.out _).mono ?_
  rintro e w5 ⟨hb5, rfl⟩; obtain ⟨hc5, hf5⟩ := bcell hb5; have hz5 := hb5.size; (try simp at hz5)
  have oA5 : w.heap.size < w5.heap.size := (by omega); have oB5 : w.heap.size + 1 < w5.heap.size := (by omega)
  have oC5 : w3.heap.size < w5.heap.size := by omega
  go_wp2_with fail
  refine (C5.out _).mono ?_
  rintro e w6 ⟨hb6, rfl⟩; obtain ⟨hc6, hf6⟩ := bcell hb6; have hz6 := hb6.size; (try simp at hz6)
  have oA6 : w.heap.size < w6.heap.size := (by omega); have oB6 : w.heap.size + 1 < w6.heap.size := (by omega)
  have oC6 : w3.heap.size < w6.heap.size := by omega
  go_wp2
  go_ret
  exact ⟨(by repeat (first | with_reducible exact Below.refl _ _ | with_reducible assumption | with_reducible refine Below.drew ?_ | with_reducible refine Below.drewN ?_ _ | with_reducible refine Below.alloc2 ?_ _ | with_reducible refine Below.alloc ?_ (by first | omega | (simp <;> omega)) _ | with_reducible refine Below.setCell ?_ (by first | omega | (simp <;> omega)) _ | with_reducible refine Below.step2 (by with_reducible assumption) ?_ | with_reducible refine Below.step (by with_reducible assumption) ?_ (by first | omega | (simp <;> omega)))), rfl⟩

set_option maxHeartbeats 2000000 in
theorem lawBoxes_c (x1 y1 z1 x2 y2 z2 u1 v1 t1 u2 v2 t2 m1 m2 m3 m4 m5 m6 : Int) (o : Bool) (n : Int) (w : World) (aw : Tells Try.prog 10 #[] (.bool true))
    (hn : (o = true ∧ n = 0) ∨ (o = false ∧ n = 27))
    (c1 : Tells Try.prog 11 #[.agg #[.int .i64 x1, .int .i64 y1, .int .i64 z1, .int .i64 x2, .int .i64 y2, .int .i64 z2], .agg #[.int .i64 u1, .int .i64 v1, .int .i64 t1, .int .i64 u2, .int .i64 v2, .int .i64 t2]] (.tuple #[.bool o, .int .i64 0]))
    (c2 : Tells Try.prog 12 #[.agg #[.int .i64 x1, .int .i64 y1, .int .i64 z1, .int .i64 x2, .int .i64 y2, .int .i64 z2], .agg #[.int .i64 u1, .int .i64 v1, .int .i64 t1, .int .i64 u2, .int .i64 v2, .int .i64 t2]] (.tuple #[.agg #[.int .i64 m1, .int .i64 m2, .int .i64 m3, .int .i64 m4, .int .i64 m5, .int .i64 m6], .int .i64 n]))
    (c3 : Tells Try.prog 13 #[.agg #[.int .i64 x1, .int .i64 y1, .int .i64 z1, .int .i64 x2, .int .i64 y2, .int .i64 z2]] (.int .i64 0)) (c4 : Tells Try.prog 14 #[.agg #[.int .i64 x1, .int .i64 y1, .int .i64 z1, .int .i64 x2, .int .i64 y2, .int .i64 z2]] (.int .i64 0))
    (c5 : Tells Try.prog 13 #[.agg #[.int .i64 u1, .int .i64 v1, .int .i64 t1, .int .i64 u2, .int .i64 v2, .int .i64 t2]] (.int .i64 0))
    (c6 : Tells Try.prog 15 #[.agg #[.int .i64 x1, .int .i64 y1, .int .i64 z1, .int .i64 x2, .int .i64 y2, .int .i64 z2], .agg #[.int .i64 u1, .int .i64 v1, .int .i64 t1, .int .i64 u2, .int .i64 v2, .int .i64 t2]] (.tuple #[.agg #[.int .i64 m1, .int .i64 m2, .int .i64 m3, .int .i64 m4, .int .i64 m5, .int .i64 m6], .bool o])) :
    Calls Try.prog 3 #[.agg #[.int .i64 x1, .int .i64 y1, .int .i64 z1, .int .i64 x2, .int .i64 y2, .int .i64 z2], .agg #[.int .i64 u1, .int .i64 v1, .int .i64 t1, .int .i64 u2, .int .i64 v2, .int .i64 t2]] w fun e w' => Below w.heap.size w w' ∧ e = .returned (.bool true) := by
  have AW := Lib.hid aw
  have C1 := Lib.hid c1
  have C2 := Lib.hid c2
  have C3 := Lib.hid c3
  have C4 := Lib.hid c4
  have C5 := Lib.hid c5
  have C6 := Lib.hid c6
  clear aw c1 c2 c3 c4 c5 c6
  rcases hn with ⟨rfl, rfl⟩ | ⟨rfl, rfl⟩
  all_goals
    go_enter Try.func3, Try.ntmps3
    go_wp2_with fail
    refine (AW.out _).mono ?_
    rintro e w1 ⟨hb1, rfl⟩; obtain ⟨hc1, hf1⟩ := bcell hb1; have hz1 := hb1.size; (try simp at hz1)
    have oA1 : w.heap.size < w1.heap.size := (by omega); have oB1 : w.heap.size + 1 < w1.heap.size := (by omega)
    go_wp2_with fail
    refine (C1.out _).mono ?_
    rintro e w2 ⟨hb2, rfl⟩; obtain ⟨hc2, hf2⟩ := bcell hb2; have hz2 := hb2.size; (try simp at hz2)
    have oA2 : w.heap.size < w2.heap.size := (by omega); have oB2 : w.heap.size + 1 < w2.heap.size := (by omega)
    go_wp2_with fail
    refine (C2.out _).mono ?_
    rintro e w3 ⟨hb3, rfl⟩; obtain ⟨hc3, hf3⟩ := bcell hb3; have hz3 := hb3.size; (try simp at hz3)
    have oA3 : w.heap.size < w3.heap.size := (by omega); have oB3 : w.heap.size + 1 < w3.heap.size := (by omega)
    go_wp2_with fail
    refine (C3.out _).mono ?_
    rintro e w4 ⟨hb4, rfl⟩; obtain ⟨hc4, hf4⟩ := bcell hb4; have hz4 := hb4.size; (try simp at hz4)
    have oA4 : w.heap.size < w4.heap.size := (by omega); have oB4 : w.heap.size + 1 < w4.heap.size := (by omega)
    have oC4 : w3.heap.size < w4.heap.size := by omega
    go_wp2_with fail
    refine (C4.out _).mono ?_
    rintro e w5 ⟨hb5, rfl⟩; obtain ⟨hc5, hf5⟩ := bcell hb5; have hz5 := hb5.size; (try simp at hz5)
    have oA5 : w.heap.size < w5.heap.size := (by omega); have oB5 : w.heap.size + 1 < w5.heap.size := (by omega)
    have oC5 : w3.heap.size < w5.heap.size := by omega
    go_wp2_with fail
    refine (C5.out _).mono ?_
    rintro e w6 ⟨hb6, rfl⟩; obtain ⟨hc6, hf6⟩ := bcell hb6; have hz6 := hb6.size; (try simp at hz6)
    have oA6 : w.heap.size < w6.heap.size := (by omega); have oB6 : w.heap.size + 1 < w6.heap.size := (by omega)
    have oC6 : w3.heap.size < w6.heap.size := by omega
    go_wp2_with fail
    refine (C6.out _).mono ?_
    rintro e w7 ⟨hb7, rfl⟩; obtain ⟨hc7, hf7⟩ := bcell hb7; have hz7 := hb7.size; (try simp at hz7)
    have oA7 : w.heap.size < w7.heap.size := (by omega); have oB7 : w.heap.size + 1 < w7.heap.size := (by omega)
    have oC7 : w3.heap.size < w7.heap.size := by omega
    go_wp2
    go_ret
    exact ⟨(by repeat (first | with_reducible exact Below.refl _ _ | with_reducible assumption | with_reducible refine Below.drew ?_ | with_reducible refine Below.drewN ?_ _ | with_reducible refine Below.alloc2 ?_ _ | with_reducible refine Below.alloc ?_ (by first | omega | (simp <;> omega)) _ | with_reducible refine Below.setCell ?_ (by first | omega | (simp <;> omega)) _ | with_reducible refine Below.step2 (by with_reducible assumption) ?_ | with_reducible refine Below.step (by with_reducible assumption) ?_ (by first | omega | (simp <;> omega)))), rfl⟩

end Go.Proofs.Ytbfbjpnmgcpjlaa
