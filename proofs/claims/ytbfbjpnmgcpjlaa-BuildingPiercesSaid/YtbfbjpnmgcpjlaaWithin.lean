/- The walk of within. -/
import Derived.Test.YtbfbjpnmgcpjlaaLess
namespace Go.Proofs.Ytbfbjpnmgcpjlaa
open Go.RowKit

theorem Bk.four {w : World} {g t : Nat} {a b c d : Value} (h : Bk w g t #[a, b, c, d]) :
    (w.cell? ⟨g, 0, none⟩ = some a ∧ w.cell? ⟨g, 1, none⟩ = some b ∧ w.cell? ⟨g, 2, none⟩ = some c ∧ w.cell? ⟨g, 3, none⟩ = some d) ∧
    w.frozen? ⟨g, 0, none⟩ = false ∧ w.frozen? ⟨g, 1, none⟩ = false ∧ w.frozen? ⟨g, 2, none⟩ = false ∧ w.frozen? ⟨g, 3, none⟩ = false :=
  ⟨⟨by simpa using h.cell 0, by simpa using h.cell 1, by simpa using h.cell 2, by simpa using h.cell 3⟩, h.frozen 0, h.frozen 1, h.frozen 2, h.frozen 3⟩

set_option maxHeartbeats 2000000 in
theorem within_still (f1 f2 t1 t2 a lo hi : Int) (w : World) :
    Calls Try.prog 48 #[.agg #[.int .i64 f1, .int .i64 f2, .int .i64 t1, .int .i64 t2], .int .i64 a, .int .i64 a, .int .i64 lo, .int .i64 hi] w fun e w' => Below w.heap.size w w' ∧
      e = .returned (if lo < a ∧ a < hi then .agg #[.int .i64 f1, .int .i64 f2, .int .i64 t1, .int .i64 t2] else .agg #[.int .i64 f1, .int .i64 f2, .int .i64 f1, .int .i64 f2]) := by
  rcases Int.lt_or_le lo a with q1 | q1
  · rcases Int.lt_or_le a hi with q2 | q2
    · rw [if_pos ⟨q1, q2⟩]
      go_enter Try.func48, Try.ntmps48
      go_wp2
      refine bodyPost_ret (v := .agg #[.int .i64 f1, .int .i64 f2, .int .i64 t1, .int .i64 t2]) (by simp [results, Try.results48, go_sem]) rfl ⟨(by repeat (first | with_reducible exact Below.refl _ _ | with_reducible assumption | with_reducible refine Below.drew ?_ | with_reducible refine Below.drewN ?_ _ | with_reducible refine Below.alloc2 ?_ _ | with_reducible refine Below.alloc ?_ (by first | omega | (simp <;> omega)) _ | with_reducible refine Below.setCell ?_ (by first | omega | (simp <;> omega)) _ | with_reducible refine Below.step2 (by with_reducible assumption) ?_ | with_reducible refine Below.step (by with_reducible assumption) ?_ (by first | omega | (simp <;> omega)))), rfl⟩
    · rw [if_neg (by omega)]
      have qd : decide (a < hi) = false := by simp; omega
      go_enter Try.func48, Try.ntmps48
      go_wp2
      refine bodyPost_ret (v := .agg #[.int .i64 f1, .int .i64 f2, .int .i64 f1, .int .i64 f2]) (by simp [results, Try.results48, go_sem]) rfl ⟨(by repeat (first | with_reducible exact Below.refl _ _ | with_reducible assumption | with_reducible refine Below.drew ?_ | with_reducible refine Below.drewN ?_ _ | with_reducible refine Below.alloc2 ?_ _ | with_reducible refine Below.alloc ?_ (by first | omega | (simp <;> omega)) _ | with_reducible refine Below.setCell ?_ (by first | omega | (simp <;> omega)) _ | with_reducible refine Below.step2 (by with_reducible assumption) ?_ | with_reducible refine Below.step (by with_reducible assumption) ?_ (by first | omega | (simp <;> omega)))), rfl⟩
  · rw [if_neg (by omega)]
    go_enter Try.func48, Try.ntmps48
    go_wp2
    refine bodyPost_ret (v := .agg #[.int .i64 f1, .int .i64 f2, .int .i64 f1, .int .i64 f2]) (by simp [results, Try.results48, go_sem]) rfl ⟨(by repeat (first | with_reducible exact Below.refl _ _ | with_reducible assumption | with_reducible refine Below.drew ?_ | with_reducible refine Below.drewN ?_ _ | with_reducible refine Below.alloc2 ?_ _ | with_reducible refine Below.alloc ?_ (by first | omega | (simp <;> omega)) _ | with_reducible refine Below.setCell ?_ (by first | omega | (simp <;> omega)) _ | with_reducible refine Below.step2 (by with_reducible assumption) ?_ | with_reducible refine Below.step (by with_reducible assumption) ?_ (by first | omega | (simp <;> omega)))), rfl⟩

set_option maxHeartbeats 4000000 in
theorem within_up (f1 f2 t1 t2 a b lo hi : Int) (w : World) (hlt : a < b)
    (ha : Co a) (hb : Co b) (hl : Co lo) (hh : Co hi) (hf : Fine (f1, f2)) (ht : Fine (t1, t2)) :
    Calls Try.prog 48 #[.agg #[.int .i64 f1, .int .i64 f2, .int .i64 t1, .int .i64 t2], .int .i64 a, .int .i64 b, .int .i64 lo, .int .i64 hi] w fun e w' => Below w.heap.size w w' ∧
      e = .returned (.agg #[.int .i64 (maxP (f1, f2) (lo - a, b - a)).1, .int .i64 (maxP (f1, f2) (lo - a, b - a)).2, .int .i64 (minP (t1, t2) (hi - a, b - a)).1, .int .i64 (minP (t1, t2) (hi - a, b - a)).2]) := by
  obtain ⟨a1, a2⟩ := ha
  obtain ⟨b1, b2⟩ := hb
  obtain ⟨l1, l2⟩ := hl
  obtain ⟨h1, h2⟩ := hh
  have HL1 := Lib.hid (fun W : World => less_any (f1, f2) (lo - a, b - a) W hf (by unfold Fine; simp only; omega))
  have HL2 := Lib.hid (fun W : World => less_any (hi - a, b - a) (t1, t2) W (by unfold Fine; simp only; omega) ht)
  have hne : (a == b) = false := by simp; omega
  unfold maxP minP
  clear hf ht
  rcases q1 : lessP (f1, f2) (lo - a, b - a)
  · rw [q1] at HL1
    rcases q2 : lessP (hi - a, b - a) (t1, t2)
    · rw [q2] at HL2
      rw [if_neg (by simp), if_neg (by simp)]
      clear q1 q2
      go_enter Try.func48, Try.ntmps48
      go_wp2_with fail
      refine (HL1.out _).mono ?_
      rintro e w1 ⟨hb1, rfl⟩
      have k1 : Bk w1 w.heap.size 84 #[.int .i64 f1, .int .i64 f2, .int .i64 t1, .int .i64 t2] := (by repeat (first | with_reducible assumption | with_reducible exact Bk.at_ (by simp) | with_reducible refine Bk.alloc ?_ _ | with_reducible refine Bk.drew ?_ | with_reducible refine Bk.drewN ?_ _ | with_reducible refine Bk.step (by with_reducible assumption) ?_ (by first | omega | (simp <;> omega))))
      have k2 : Bk w1 (w.heap.size + 1) 84 #[.int .i64 0, .int .i64 0, .int .i64 0, .int .i64 0] := (by repeat (first | with_reducible assumption | with_reducible exact Bk.at_ (by simp) | with_reducible refine Bk.alloc ?_ _ | with_reducible refine Bk.drew ?_ | with_reducible refine Bk.drewN ?_ _ | with_reducible refine Bk.step (by with_reducible assumption) ?_ (by first | omega | (simp <;> omega))))
      have k3 : Bk w1 (w.heap.size + 1 + 1) 82 #[.int .i64 (lo - a), .int .i64 (b - a)] := (by repeat (first | with_reducible assumption | with_reducible exact Bk.at_ (by simp) | with_reducible refine Bk.alloc ?_ _ | with_reducible refine Bk.drew ?_ | with_reducible refine Bk.drewN ?_ _ | with_reducible refine Bk.step (by with_reducible assumption) ?_ (by first | omega | (simp <;> omega))))
      have HB1 : Hid (Below w.heap.size w w1) := Lib.hid (by repeat (first | with_reducible exact Below.refl _ _ | with_reducible assumption | with_reducible refine Below.drew ?_ | with_reducible refine Below.drewN ?_ _ | with_reducible refine Below.alloc2 ?_ _ | with_reducible refine Below.alloc ?_ (by first | omega | (simp <;> omega)) _ | with_reducible refine Below.setCell ?_ (by first | omega | (simp <;> omega)) _ | with_reducible refine Below.step2 (by with_reducible assumption) ?_ | with_reducible refine Below.step (by with_reducible assumption) ?_ (by first | omega | (simp <;> omega))))
      have z1 := k3.lt
      have o1 : w.heap.size < w1.heap.size := by omega
      have o2 : w.heap.size + 1 < w1.heap.size := by omega
      obtain ⟨⟨_, _, _, _⟩, _, _, _, _⟩ := k1.four
      obtain ⟨⟨_, _⟩, _, _⟩ := k3.two
      have K1 := Lib.hid k1
      have K2 := Lib.hid k2
      clear hb1 k1 k2 k3
      go_wp2_with fail
      refine (HL2.out _).mono ?_
      rintro e w2 ⟨hb2, rfl⟩
      have k4 : Bk w2 w.heap.size 84 #[.int .i64 f1, .int .i64 f2, .int .i64 t1, .int .i64 t2] := Bk.step hb2 (K1.out.alloc _) (by first | (simp; omega) | (simp [World.setCell]; omega))
      have k5 : Bk w2 (w.heap.size + 1) 84 #[.int .i64 0, .int .i64 0, .int .i64 0, .int .i64 0] := Bk.step hb2 (K2.out.alloc _) (by first | (simp; omega) | (simp [World.setCell]; omega))
      have k6 : Bk w2 w1.heap.size 82 #[.int .i64 (hi - a), .int .i64 (b - a)] := Bk.step hb2 (Bk.at_ (by first | (simp; done) | (simp [World.setCell]; done))) (by first | (simp; done) | (simp [World.setCell]; done))
      have hz2 := hb2.size
      have HB2 : Hid (Below w.heap.size w w2) := Lib.hid (by have hb := HB1.out; exact (by repeat (first | with_reducible exact Below.refl _ _ | with_reducible assumption | with_reducible refine Below.drew ?_ | with_reducible refine Below.drewN ?_ _ | with_reducible refine Below.alloc2 ?_ _ | with_reducible refine Below.alloc ?_ (by first | omega | (simp <;> omega)) _ | with_reducible refine Below.setCell ?_ (by first | omega | (simp <;> omega)) _ | with_reducible refine Below.step2 (by with_reducible assumption) ?_ | with_reducible refine Below.step (by with_reducible assumption) ?_ (by first | omega | (simp <;> omega)))))
      clear hb2
      obtain ⟨⟨_, _, _, _⟩, _, _, _, _⟩ := k4.four
      obtain ⟨⟨_, _, _, _⟩, _, _, _, _⟩ := k5.four
      obtain ⟨⟨_, _⟩, _, _⟩ := k6.two
      have o3 : w.heap.size < w2.heap.size := k4.lt
      have o4 : w.heap.size + 1 < w2.heap.size := k5.lt
      have hb := HB2.out
      go_wp2
      refine bodyPost_ret (v := .agg #[.int .i64 f1, .int .i64 f2, .int .i64 t1, .int .i64 t2]) (by simp [results, Try.results48, go_sem, *]) rfl ⟨(by repeat (first | with_reducible exact Below.refl _ _ | with_reducible assumption | with_reducible refine Below.drew ?_ | with_reducible refine Below.drewN ?_ _ | with_reducible refine Below.alloc2 ?_ _ | with_reducible refine Below.alloc ?_ (by first | omega | (simp <;> omega)) _ | with_reducible refine Below.setCell ?_ (by first | omega | (simp <;> omega)) _ | with_reducible refine Below.step2 (by with_reducible assumption) ?_ | with_reducible refine Below.step (by with_reducible assumption) ?_ (by first | omega | (simp <;> omega)))), rfl⟩
    · rw [q2] at HL2
      rw [if_neg (by simp), if_pos rfl]
      clear q1 q2
      go_enter Try.func48, Try.ntmps48
      go_wp2_with fail
      refine (HL1.out _).mono ?_
      rintro e w1 ⟨hb1, rfl⟩
      have k1 : Bk w1 w.heap.size 84 #[.int .i64 f1, .int .i64 f2, .int .i64 t1, .int .i64 t2] := (by repeat (first | with_reducible assumption | with_reducible exact Bk.at_ (by simp) | with_reducible refine Bk.alloc ?_ _ | with_reducible refine Bk.drew ?_ | with_reducible refine Bk.drewN ?_ _ | with_reducible refine Bk.step (by with_reducible assumption) ?_ (by first | omega | (simp <;> omega))))
      have k2 : Bk w1 (w.heap.size + 1) 84 #[.int .i64 0, .int .i64 0, .int .i64 0, .int .i64 0] := (by repeat (first | with_reducible assumption | with_reducible exact Bk.at_ (by simp) | with_reducible refine Bk.alloc ?_ _ | with_reducible refine Bk.drew ?_ | with_reducible refine Bk.drewN ?_ _ | with_reducible refine Bk.step (by with_reducible assumption) ?_ (by first | omega | (simp <;> omega))))
      have k3 : Bk w1 (w.heap.size + 1 + 1) 82 #[.int .i64 (lo - a), .int .i64 (b - a)] := (by repeat (first | with_reducible assumption | with_reducible exact Bk.at_ (by simp) | with_reducible refine Bk.alloc ?_ _ | with_reducible refine Bk.drew ?_ | with_reducible refine Bk.drewN ?_ _ | with_reducible refine Bk.step (by with_reducible assumption) ?_ (by first | omega | (simp <;> omega))))
      have HB1 : Hid (Below w.heap.size w w1) := Lib.hid (by repeat (first | with_reducible exact Below.refl _ _ | with_reducible assumption | with_reducible refine Below.drew ?_ | with_reducible refine Below.drewN ?_ _ | with_reducible refine Below.alloc2 ?_ _ | with_reducible refine Below.alloc ?_ (by first | omega | (simp <;> omega)) _ | with_reducible refine Below.setCell ?_ (by first | omega | (simp <;> omega)) _ | with_reducible refine Below.step2 (by with_reducible assumption) ?_ | with_reducible refine Below.step (by with_reducible assumption) ?_ (by first | omega | (simp <;> omega))))
      have z1 := k3.lt
      have o1 : w.heap.size < w1.heap.size := by omega
      have o2 : w.heap.size + 1 < w1.heap.size := by omega
      obtain ⟨⟨_, _, _, _⟩, _, _, _, _⟩ := k1.four
      obtain ⟨⟨_, _⟩, _, _⟩ := k3.two
      have K1 := Lib.hid k1
      have K2 := Lib.hid k2
      clear hb1 k1 k2 k3
      go_wp2_with fail
      refine (HL2.out _).mono ?_
      rintro e w2 ⟨hb2, rfl⟩
      have k4 : Bk w2 w.heap.size 84 #[.int .i64 f1, .int .i64 f2, .int .i64 t1, .int .i64 t2] := Bk.step hb2 (K1.out.alloc _) (by first | (simp; omega) | (simp [World.setCell]; omega))
      have k5 : Bk w2 (w.heap.size + 1) 84 #[.int .i64 0, .int .i64 0, .int .i64 0, .int .i64 0] := Bk.step hb2 (K2.out.alloc _) (by first | (simp; omega) | (simp [World.setCell]; omega))
      have k6 : Bk w2 w1.heap.size 82 #[.int .i64 (hi - a), .int .i64 (b - a)] := Bk.step hb2 (Bk.at_ (by first | (simp; done) | (simp [World.setCell]; done))) (by first | (simp; done) | (simp [World.setCell]; done))
      have hz2 := hb2.size
      have HB2 : Hid (Below w.heap.size w w2) := Lib.hid (by have hb := HB1.out; exact (by repeat (first | with_reducible exact Below.refl _ _ | with_reducible assumption | with_reducible refine Below.drew ?_ | with_reducible refine Below.drewN ?_ _ | with_reducible refine Below.alloc2 ?_ _ | with_reducible refine Below.alloc ?_ (by first | omega | (simp <;> omega)) _ | with_reducible refine Below.setCell ?_ (by first | omega | (simp <;> omega)) _ | with_reducible refine Below.step2 (by with_reducible assumption) ?_ | with_reducible refine Below.step (by with_reducible assumption) ?_ (by first | omega | (simp <;> omega)))))
      clear hb2
      obtain ⟨⟨_, _, _, _⟩, _, _, _, _⟩ := k4.four
      obtain ⟨⟨_, _, _, _⟩, _, _, _, _⟩ := k5.four
      obtain ⟨⟨_, _⟩, _, _⟩ := k6.two
      have o3 : w.heap.size < w2.heap.size := k4.lt
      have o4 : w.heap.size + 1 < w2.heap.size := k5.lt
      have hb := HB2.out
      go_wp2
      refine bodyPost_ret (v := .agg #[.int .i64 f1, .int .i64 f2, .int .i64 (hi - a), .int .i64 (b - a)]) (by simp [results, Try.results48, go_sem, *]) rfl ⟨(by repeat (first | with_reducible exact Below.refl _ _ | with_reducible assumption | with_reducible refine Below.drew ?_ | with_reducible refine Below.drewN ?_ _ | with_reducible refine Below.alloc2 ?_ _ | with_reducible refine Below.alloc ?_ (by first | omega | (simp <;> omega)) _ | with_reducible refine Below.setCell ?_ (by first | omega | (simp <;> omega)) _ | with_reducible refine Below.step2 (by with_reducible assumption) ?_ | with_reducible refine Below.step (by with_reducible assumption) ?_ (by first | omega | (simp <;> omega)))), rfl⟩
  · rw [q1] at HL1
    rcases q2 : lessP (hi - a, b - a) (t1, t2)
    · rw [q2] at HL2
      rw [if_pos rfl, if_neg (by simp)]
      clear q1 q2
      go_enter Try.func48, Try.ntmps48
      go_wp2_with fail
      refine (HL1.out _).mono ?_
      rintro e w1 ⟨hb1, rfl⟩
      have k1 : Bk w1 w.heap.size 84 #[.int .i64 f1, .int .i64 f2, .int .i64 t1, .int .i64 t2] := (by repeat (first | with_reducible assumption | with_reducible exact Bk.at_ (by simp) | with_reducible refine Bk.alloc ?_ _ | with_reducible refine Bk.drew ?_ | with_reducible refine Bk.drewN ?_ _ | with_reducible refine Bk.step (by with_reducible assumption) ?_ (by first | omega | (simp <;> omega))))
      have k2 : Bk w1 (w.heap.size + 1) 84 #[.int .i64 0, .int .i64 0, .int .i64 0, .int .i64 0] := (by repeat (first | with_reducible assumption | with_reducible exact Bk.at_ (by simp) | with_reducible refine Bk.alloc ?_ _ | with_reducible refine Bk.drew ?_ | with_reducible refine Bk.drewN ?_ _ | with_reducible refine Bk.step (by with_reducible assumption) ?_ (by first | omega | (simp <;> omega))))
      have k3 : Bk w1 (w.heap.size + 1 + 1) 82 #[.int .i64 (lo - a), .int .i64 (b - a)] := (by repeat (first | with_reducible assumption | with_reducible exact Bk.at_ (by simp) | with_reducible refine Bk.alloc ?_ _ | with_reducible refine Bk.drew ?_ | with_reducible refine Bk.drewN ?_ _ | with_reducible refine Bk.step (by with_reducible assumption) ?_ (by first | omega | (simp <;> omega))))
      have HB1 : Hid (Below w.heap.size w w1) := Lib.hid (by repeat (first | with_reducible exact Below.refl _ _ | with_reducible assumption | with_reducible refine Below.drew ?_ | with_reducible refine Below.drewN ?_ _ | with_reducible refine Below.alloc2 ?_ _ | with_reducible refine Below.alloc ?_ (by first | omega | (simp <;> omega)) _ | with_reducible refine Below.setCell ?_ (by first | omega | (simp <;> omega)) _ | with_reducible refine Below.step2 (by with_reducible assumption) ?_ | with_reducible refine Below.step (by with_reducible assumption) ?_ (by first | omega | (simp <;> omega))))
      have z1 := k3.lt
      have o1 : w.heap.size < w1.heap.size := by omega
      have o2 : w.heap.size + 1 < w1.heap.size := by omega
      obtain ⟨⟨_, _, _, _⟩, _, _, _, _⟩ := k1.four
      obtain ⟨⟨_, _⟩, _, _⟩ := k3.two
      have K1 := Lib.hid k1
      have K2 := Lib.hid k2
      clear hb1 k1 k2 k3
      go_wp2_with fail
      refine (HL2.out _).mono ?_
      rintro e w2 ⟨hb2, rfl⟩
      have k4 : Bk w2 w.heap.size 84 #[.int .i64 (lo - a), .int .i64 (b - a), .int .i64 t1, .int .i64 t2] := Bk.step hb2 (((K1.out.set_ 0 _).set_ 1 _).alloc _) (by first | (simp; omega) | (simp [World.setCell]; omega))
      have k5 : Bk w2 (w.heap.size + 1) 84 #[.int .i64 0, .int .i64 0, .int .i64 0, .int .i64 0] := Bk.step hb2 (((K2.out.other (by simp) _).other (by simp) _).alloc _) (by first | (simp; omega) | (simp [World.setCell]; omega))
      have k6 : Bk w2 w1.heap.size 82 #[.int .i64 (hi - a), .int .i64 (b - a)] := Bk.step hb2 (Bk.at_ (by first | (simp; done) | (simp [World.setCell]; done))) (by first | (simp; done) | (simp [World.setCell]; done))
      have hz2 := hb2.size
      have HB2 : Hid (Below w.heap.size w w2) := Lib.hid (by have hb := HB1.out; exact (by repeat (first | with_reducible exact Below.refl _ _ | with_reducible assumption | with_reducible refine Below.drew ?_ | with_reducible refine Below.drewN ?_ _ | with_reducible refine Below.alloc2 ?_ _ | with_reducible refine Below.alloc ?_ (by first | omega | (simp <;> omega)) _ | with_reducible refine Below.setCell ?_ (by first | omega | (simp <;> omega)) _ | with_reducible refine Below.step2 (by with_reducible assumption) ?_ | with_reducible refine Below.step (by with_reducible assumption) ?_ (by first | omega | (simp <;> omega)))))
      clear hb2
      obtain ⟨⟨_, _, _, _⟩, _, _, _, _⟩ := k4.four
      obtain ⟨⟨_, _, _, _⟩, _, _, _, _⟩ := k5.four
      obtain ⟨⟨_, _⟩, _, _⟩ := k6.two
      have o3 : w.heap.size < w2.heap.size := k4.lt
      have o4 : w.heap.size + 1 < w2.heap.size := k5.lt
      have hb := HB2.out
      go_wp2
      refine bodyPost_ret (v := .agg #[.int .i64 (lo - a), .int .i64 (b - a), .int .i64 t1, .int .i64 t2]) (by simp [results, Try.results48, go_sem, *]) rfl ⟨(by repeat (first | with_reducible exact Below.refl _ _ | with_reducible assumption | with_reducible refine Below.drew ?_ | with_reducible refine Below.drewN ?_ _ | with_reducible refine Below.alloc2 ?_ _ | with_reducible refine Below.alloc ?_ (by first | omega | (simp <;> omega)) _ | with_reducible refine Below.setCell ?_ (by first | omega | (simp <;> omega)) _ | with_reducible refine Below.step2 (by with_reducible assumption) ?_ | with_reducible refine Below.step (by with_reducible assumption) ?_ (by first | omega | (simp <;> omega)))), rfl⟩
    · rw [q2] at HL2
      rw [if_pos rfl, if_pos rfl]
      clear q1 q2
      go_enter Try.func48, Try.ntmps48
      go_wp2_with fail
      refine (HL1.out _).mono ?_
      rintro e w1 ⟨hb1, rfl⟩
      have k1 : Bk w1 w.heap.size 84 #[.int .i64 f1, .int .i64 f2, .int .i64 t1, .int .i64 t2] := (by repeat (first | with_reducible assumption | with_reducible exact Bk.at_ (by simp) | with_reducible refine Bk.alloc ?_ _ | with_reducible refine Bk.drew ?_ | with_reducible refine Bk.drewN ?_ _ | with_reducible refine Bk.step (by with_reducible assumption) ?_ (by first | omega | (simp <;> omega))))
      have k2 : Bk w1 (w.heap.size + 1) 84 #[.int .i64 0, .int .i64 0, .int .i64 0, .int .i64 0] := (by repeat (first | with_reducible assumption | with_reducible exact Bk.at_ (by simp) | with_reducible refine Bk.alloc ?_ _ | with_reducible refine Bk.drew ?_ | with_reducible refine Bk.drewN ?_ _ | with_reducible refine Bk.step (by with_reducible assumption) ?_ (by first | omega | (simp <;> omega))))
      have k3 : Bk w1 (w.heap.size + 1 + 1) 82 #[.int .i64 (lo - a), .int .i64 (b - a)] := (by repeat (first | with_reducible assumption | with_reducible exact Bk.at_ (by simp) | with_reducible refine Bk.alloc ?_ _ | with_reducible refine Bk.drew ?_ | with_reducible refine Bk.drewN ?_ _ | with_reducible refine Bk.step (by with_reducible assumption) ?_ (by first | omega | (simp <;> omega))))
      have HB1 : Hid (Below w.heap.size w w1) := Lib.hid (by repeat (first | with_reducible exact Below.refl _ _ | with_reducible assumption | with_reducible refine Below.drew ?_ | with_reducible refine Below.drewN ?_ _ | with_reducible refine Below.alloc2 ?_ _ | with_reducible refine Below.alloc ?_ (by first | omega | (simp <;> omega)) _ | with_reducible refine Below.setCell ?_ (by first | omega | (simp <;> omega)) _ | with_reducible refine Below.step2 (by with_reducible assumption) ?_ | with_reducible refine Below.step (by with_reducible assumption) ?_ (by first | omega | (simp <;> omega))))
      have z1 := k3.lt
      have o1 : w.heap.size < w1.heap.size := by omega
      have o2 : w.heap.size + 1 < w1.heap.size := by omega
      obtain ⟨⟨_, _, _, _⟩, _, _, _, _⟩ := k1.four
      obtain ⟨⟨_, _⟩, _, _⟩ := k3.two
      have K1 := Lib.hid k1
      have K2 := Lib.hid k2
      clear hb1 k1 k2 k3
      go_wp2_with fail
      refine (HL2.out _).mono ?_
      rintro e w2 ⟨hb2, rfl⟩
      have k4 : Bk w2 w.heap.size 84 #[.int .i64 (lo - a), .int .i64 (b - a), .int .i64 t1, .int .i64 t2] := Bk.step hb2 (((K1.out.set_ 0 _).set_ 1 _).alloc _) (by first | (simp; omega) | (simp [World.setCell]; omega))
      have k5 : Bk w2 (w.heap.size + 1) 84 #[.int .i64 0, .int .i64 0, .int .i64 0, .int .i64 0] := Bk.step hb2 (((K2.out.other (by simp) _).other (by simp) _).alloc _) (by first | (simp; omega) | (simp [World.setCell]; omega))
      have k6 : Bk w2 w1.heap.size 82 #[.int .i64 (hi - a), .int .i64 (b - a)] := Bk.step hb2 (Bk.at_ (by first | (simp; done) | (simp [World.setCell]; done))) (by first | (simp; done) | (simp [World.setCell]; done))
      have hz2 := hb2.size
      have HB2 : Hid (Below w.heap.size w w2) := Lib.hid (by have hb := HB1.out; exact (by repeat (first | with_reducible exact Below.refl _ _ | with_reducible assumption | with_reducible refine Below.drew ?_ | with_reducible refine Below.drewN ?_ _ | with_reducible refine Below.alloc2 ?_ _ | with_reducible refine Below.alloc ?_ (by first | omega | (simp <;> omega)) _ | with_reducible refine Below.setCell ?_ (by first | omega | (simp <;> omega)) _ | with_reducible refine Below.step2 (by with_reducible assumption) ?_ | with_reducible refine Below.step (by with_reducible assumption) ?_ (by first | omega | (simp <;> omega)))))
      clear hb2
      obtain ⟨⟨_, _, _, _⟩, _, _, _, _⟩ := k4.four
      obtain ⟨⟨_, _, _, _⟩, _, _, _, _⟩ := k5.four
      obtain ⟨⟨_, _⟩, _, _⟩ := k6.two
      have o3 : w.heap.size < w2.heap.size := k4.lt
      have o4 : w.heap.size + 1 < w2.heap.size := k5.lt
      have hb := HB2.out
      go_wp2
      refine bodyPost_ret (v := .agg #[.int .i64 (lo - a), .int .i64 (b - a), .int .i64 (hi - a), .int .i64 (b - a)]) (by simp [results, Try.results48, go_sem, *]) rfl ⟨(by repeat (first | with_reducible exact Below.refl _ _ | with_reducible assumption | with_reducible refine Below.drew ?_ | with_reducible refine Below.drewN ?_ _ | with_reducible refine Below.alloc2 ?_ _ | with_reducible refine Below.alloc ?_ (by first | omega | (simp <;> omega)) _ | with_reducible refine Below.setCell ?_ (by first | omega | (simp <;> omega)) _ | with_reducible refine Below.step2 (by with_reducible assumption) ?_ | with_reducible refine Below.step (by with_reducible assumption) ?_ (by first | omega | (simp <;> omega)))), rfl⟩

set_option maxHeartbeats 4000000 in
theorem within_down (f1 f2 t1 t2 a b lo hi : Int) (w : World) (hlt : b < a)
    (ha : Co a) (hb : Co b) (hl : Co lo) (hh : Co hi) (hf : Fine (f1, f2)) (ht : Fine (t1, t2)) :
    Calls Try.prog 48 #[.agg #[.int .i64 f1, .int .i64 f2, .int .i64 t1, .int .i64 t2], .int .i64 a, .int .i64 b, .int .i64 lo, .int .i64 hi] w fun e w' => Below w.heap.size w w' ∧
      e = .returned (.agg #[.int .i64 (maxP (f1, f2) (-hi + a, -b + a)).1, .int .i64 (maxP (f1, f2) (-hi + a, -b + a)).2, .int .i64 (minP (t1, t2) (-lo + a, -b + a)).1, .int .i64 (minP (t1, t2) (-lo + a, -b + a)).2]) := by
  obtain ⟨a1, a2⟩ := ha
  obtain ⟨b1, b2⟩ := hb
  obtain ⟨l1, l2⟩ := hl
  obtain ⟨h1, h2⟩ := hh
  have HL1 := Lib.hid (fun W : World => less_any (f1, f2) (-hi + a, -b + a) W hf (by unfold Fine; simp only; omega))
  have HL2 := Lib.hid (fun W : World => less_any (-lo + a, -b + a) (t1, t2) W (by unfold Fine; simp only; omega) ht)
  have hne : (a == b) = false := by simp; omega
  unfold maxP minP
  clear hf ht
  rcases q1 : lessP (f1, f2) (-hi + a, -b + a)
  · rw [q1] at HL1
    rcases q2 : lessP (-lo + a, -b + a) (t1, t2)
    · rw [q2] at HL2
      rw [if_neg (by simp), if_neg (by simp)]
      clear q1 q2
      go_enter Try.func48, Try.ntmps48
      go_wp2_with fail
      refine (HL1.out _).mono ?_
      rintro e w1 ⟨hb1, rfl⟩
      have k1 : Bk w1 w.heap.size 84 #[.int .i64 f1, .int .i64 f2, .int .i64 t1, .int .i64 t2] := (by repeat (first | with_reducible assumption | with_reducible exact Bk.at_ (by simp) | with_reducible refine Bk.alloc ?_ _ | with_reducible refine Bk.drew ?_ | with_reducible refine Bk.drewN ?_ _ | with_reducible refine Bk.step (by with_reducible assumption) ?_ (by first | omega | (simp <;> omega))))
      have k2 : Bk w1 (w.heap.size + 1) 84 #[.int .i64 0, .int .i64 0, .int .i64 0, .int .i64 0] := (by repeat (first | with_reducible assumption | with_reducible exact Bk.at_ (by simp) | with_reducible refine Bk.alloc ?_ _ | with_reducible refine Bk.drew ?_ | with_reducible refine Bk.drewN ?_ _ | with_reducible refine Bk.step (by with_reducible assumption) ?_ (by first | omega | (simp <;> omega))))
      have k3 : Bk w1 (w.heap.size + 1 + 1) 82 #[.int .i64 (-hi + a), .int .i64 (-b + a)] := (by repeat (first | with_reducible assumption | with_reducible exact Bk.at_ (by simp) | with_reducible refine Bk.alloc ?_ _ | with_reducible refine Bk.drew ?_ | with_reducible refine Bk.drewN ?_ _ | with_reducible refine Bk.step (by with_reducible assumption) ?_ (by first | omega | (simp <;> omega))))
      have HB1 : Hid (Below w.heap.size w w1) := Lib.hid (by repeat (first | with_reducible exact Below.refl _ _ | with_reducible assumption | with_reducible refine Below.drew ?_ | with_reducible refine Below.drewN ?_ _ | with_reducible refine Below.alloc2 ?_ _ | with_reducible refine Below.alloc ?_ (by first | omega | (simp <;> omega)) _ | with_reducible refine Below.setCell ?_ (by first | omega | (simp <;> omega)) _ | with_reducible refine Below.step2 (by with_reducible assumption) ?_ | with_reducible refine Below.step (by with_reducible assumption) ?_ (by first | omega | (simp <;> omega))))
      have z1 := k3.lt
      have o1 : w.heap.size < w1.heap.size := by omega
      have o2 : w.heap.size + 1 < w1.heap.size := by omega
      obtain ⟨⟨_, _, _, _⟩, _, _, _, _⟩ := k1.four
      obtain ⟨⟨_, _⟩, _, _⟩ := k3.two
      have K1 := Lib.hid k1
      have K2 := Lib.hid k2
      clear hb1 k1 k2 k3
      go_wp2_with fail
      refine (HL2.out _).mono ?_
      rintro e w2 ⟨hb2, rfl⟩
      have k4 : Bk w2 w.heap.size 84 #[.int .i64 f1, .int .i64 f2, .int .i64 t1, .int .i64 t2] := Bk.step hb2 (K1.out.alloc _) (by first | (simp; omega) | (simp [World.setCell]; omega))
      have k5 : Bk w2 (w.heap.size + 1) 84 #[.int .i64 0, .int .i64 0, .int .i64 0, .int .i64 0] := Bk.step hb2 (K2.out.alloc _) (by first | (simp; omega) | (simp [World.setCell]; omega))
      have k6 : Bk w2 w1.heap.size 82 #[.int .i64 (-lo + a), .int .i64 (-b + a)] := Bk.step hb2 (Bk.at_ (by first | (simp; done) | (simp [World.setCell]; done))) (by first | (simp; done) | (simp [World.setCell]; done))
      have hz2 := hb2.size
      have HB2 : Hid (Below w.heap.size w w2) := Lib.hid (by have hb := HB1.out; exact (by repeat (first | with_reducible exact Below.refl _ _ | with_reducible assumption | with_reducible refine Below.drew ?_ | with_reducible refine Below.drewN ?_ _ | with_reducible refine Below.alloc2 ?_ _ | with_reducible refine Below.alloc ?_ (by first | omega | (simp <;> omega)) _ | with_reducible refine Below.setCell ?_ (by first | omega | (simp <;> omega)) _ | with_reducible refine Below.step2 (by with_reducible assumption) ?_ | with_reducible refine Below.step (by with_reducible assumption) ?_ (by first | omega | (simp <;> omega)))))
      clear hb2
      obtain ⟨⟨_, _, _, _⟩, _, _, _, _⟩ := k4.four
      obtain ⟨⟨_, _, _, _⟩, _, _, _, _⟩ := k5.four
      obtain ⟨⟨_, _⟩, _, _⟩ := k6.two
      have o3 : w.heap.size < w2.heap.size := k4.lt
      have o4 : w.heap.size + 1 < w2.heap.size := k5.lt
      have hb := HB2.out
      go_wp2
      refine bodyPost_ret (v := .agg #[.int .i64 f1, .int .i64 f2, .int .i64 t1, .int .i64 t2]) (by simp [results, Try.results48, go_sem, *]) rfl ⟨(by repeat (first | with_reducible exact Below.refl _ _ | with_reducible assumption | with_reducible refine Below.drew ?_ | with_reducible refine Below.drewN ?_ _ | with_reducible refine Below.alloc2 ?_ _ | with_reducible refine Below.alloc ?_ (by first | omega | (simp <;> omega)) _ | with_reducible refine Below.setCell ?_ (by first | omega | (simp <;> omega)) _ | with_reducible refine Below.step2 (by with_reducible assumption) ?_ | with_reducible refine Below.step (by with_reducible assumption) ?_ (by first | omega | (simp <;> omega)))), rfl⟩
    · rw [q2] at HL2
      rw [if_neg (by simp), if_pos rfl]
      clear q1 q2
      go_enter Try.func48, Try.ntmps48
      go_wp2_with fail
      refine (HL1.out _).mono ?_
      rintro e w1 ⟨hb1, rfl⟩
      have k1 : Bk w1 w.heap.size 84 #[.int .i64 f1, .int .i64 f2, .int .i64 t1, .int .i64 t2] := (by repeat (first | with_reducible assumption | with_reducible exact Bk.at_ (by simp) | with_reducible refine Bk.alloc ?_ _ | with_reducible refine Bk.drew ?_ | with_reducible refine Bk.drewN ?_ _ | with_reducible refine Bk.step (by with_reducible assumption) ?_ (by first | omega | (simp <;> omega))))
      have k2 : Bk w1 (w.heap.size + 1) 84 #[.int .i64 0, .int .i64 0, .int .i64 0, .int .i64 0] := (by repeat (first | with_reducible assumption | with_reducible exact Bk.at_ (by simp) | with_reducible refine Bk.alloc ?_ _ | with_reducible refine Bk.drew ?_ | with_reducible refine Bk.drewN ?_ _ | with_reducible refine Bk.step (by with_reducible assumption) ?_ (by first | omega | (simp <;> omega))))
      have k3 : Bk w1 (w.heap.size + 1 + 1) 82 #[.int .i64 (-hi + a), .int .i64 (-b + a)] := (by repeat (first | with_reducible assumption | with_reducible exact Bk.at_ (by simp) | with_reducible refine Bk.alloc ?_ _ | with_reducible refine Bk.drew ?_ | with_reducible refine Bk.drewN ?_ _ | with_reducible refine Bk.step (by with_reducible assumption) ?_ (by first | omega | (simp <;> omega))))
      have HB1 : Hid (Below w.heap.size w w1) := Lib.hid (by repeat (first | with_reducible exact Below.refl _ _ | with_reducible assumption | with_reducible refine Below.drew ?_ | with_reducible refine Below.drewN ?_ _ | with_reducible refine Below.alloc2 ?_ _ | with_reducible refine Below.alloc ?_ (by first | omega | (simp <;> omega)) _ | with_reducible refine Below.setCell ?_ (by first | omega | (simp <;> omega)) _ | with_reducible refine Below.step2 (by with_reducible assumption) ?_ | with_reducible refine Below.step (by with_reducible assumption) ?_ (by first | omega | (simp <;> omega))))
      have z1 := k3.lt
      have o1 : w.heap.size < w1.heap.size := by omega
      have o2 : w.heap.size + 1 < w1.heap.size := by omega
      obtain ⟨⟨_, _, _, _⟩, _, _, _, _⟩ := k1.four
      obtain ⟨⟨_, _⟩, _, _⟩ := k3.two
      have K1 := Lib.hid k1
      have K2 := Lib.hid k2
      clear hb1 k1 k2 k3
      go_wp2_with fail
      refine (HL2.out _).mono ?_
      rintro e w2 ⟨hb2, rfl⟩
      have k4 : Bk w2 w.heap.size 84 #[.int .i64 f1, .int .i64 f2, .int .i64 t1, .int .i64 t2] := Bk.step hb2 (K1.out.alloc _) (by first | (simp; omega) | (simp [World.setCell]; omega))
      have k5 : Bk w2 (w.heap.size + 1) 84 #[.int .i64 0, .int .i64 0, .int .i64 0, .int .i64 0] := Bk.step hb2 (K2.out.alloc _) (by first | (simp; omega) | (simp [World.setCell]; omega))
      have k6 : Bk w2 w1.heap.size 82 #[.int .i64 (-lo + a), .int .i64 (-b + a)] := Bk.step hb2 (Bk.at_ (by first | (simp; done) | (simp [World.setCell]; done))) (by first | (simp; done) | (simp [World.setCell]; done))
      have hz2 := hb2.size
      have HB2 : Hid (Below w.heap.size w w2) := Lib.hid (by have hb := HB1.out; exact (by repeat (first | with_reducible exact Below.refl _ _ | with_reducible assumption | with_reducible refine Below.drew ?_ | with_reducible refine Below.drewN ?_ _ | with_reducible refine Below.alloc2 ?_ _ | with_reducible refine Below.alloc ?_ (by first | omega | (simp <;> omega)) _ | with_reducible refine Below.setCell ?_ (by first | omega | (simp <;> omega)) _ | with_reducible refine Below.step2 (by with_reducible assumption) ?_ | with_reducible refine Below.step (by with_reducible assumption) ?_ (by first | omega | (simp <;> omega)))))
      clear hb2
      obtain ⟨⟨_, _, _, _⟩, _, _, _, _⟩ := k4.four
      obtain ⟨⟨_, _, _, _⟩, _, _, _, _⟩ := k5.four
      obtain ⟨⟨_, _⟩, _, _⟩ := k6.two
      have o3 : w.heap.size < w2.heap.size := k4.lt
      have o4 : w.heap.size + 1 < w2.heap.size := k5.lt
      have hb := HB2.out
      go_wp2
      refine bodyPost_ret (v := .agg #[.int .i64 f1, .int .i64 f2, .int .i64 (-lo + a), .int .i64 (-b + a)]) (by simp [results, Try.results48, go_sem, *]) rfl ⟨(by repeat (first | with_reducible exact Below.refl _ _ | with_reducible assumption | with_reducible refine Below.drew ?_ | with_reducible refine Below.drewN ?_ _ | with_reducible refine Below.alloc2 ?_ _ | with_reducible refine Below.alloc ?_ (by first | omega | (simp <;> omega)) _ | with_reducible refine Below.setCell ?_ (by first | omega | (simp <;> omega)) _ | with_reducible refine Below.step2 (by with_reducible assumption) ?_ | with_reducible refine Below.step (by with_reducible assumption) ?_ (by first | omega | (simp <;> omega)))), rfl⟩
  · rw [q1] at HL1
    rcases q2 : lessP (-lo + a, -b + a) (t1, t2)
    · rw [q2] at HL2
      rw [if_pos rfl, if_neg (by simp)]
      clear q1 q2
      go_enter Try.func48, Try.ntmps48
      go_wp2_with fail
      refine (HL1.out _).mono ?_
      rintro e w1 ⟨hb1, rfl⟩
      have k1 : Bk w1 w.heap.size 84 #[.int .i64 f1, .int .i64 f2, .int .i64 t1, .int .i64 t2] := (by repeat (first | with_reducible assumption | with_reducible exact Bk.at_ (by simp) | with_reducible refine Bk.alloc ?_ _ | with_reducible refine Bk.drew ?_ | with_reducible refine Bk.drewN ?_ _ | with_reducible refine Bk.step (by with_reducible assumption) ?_ (by first | omega | (simp <;> omega))))
      have k2 : Bk w1 (w.heap.size + 1) 84 #[.int .i64 0, .int .i64 0, .int .i64 0, .int .i64 0] := (by repeat (first | with_reducible assumption | with_reducible exact Bk.at_ (by simp) | with_reducible refine Bk.alloc ?_ _ | with_reducible refine Bk.drew ?_ | with_reducible refine Bk.drewN ?_ _ | with_reducible refine Bk.step (by with_reducible assumption) ?_ (by first | omega | (simp <;> omega))))
      have k3 : Bk w1 (w.heap.size + 1 + 1) 82 #[.int .i64 (-hi + a), .int .i64 (-b + a)] := (by repeat (first | with_reducible assumption | with_reducible exact Bk.at_ (by simp) | with_reducible refine Bk.alloc ?_ _ | with_reducible refine Bk.drew ?_ | with_reducible refine Bk.drewN ?_ _ | with_reducible refine Bk.step (by with_reducible assumption) ?_ (by first | omega | (simp <;> omega))))
      have HB1 : Hid (Below w.heap.size w w1) := Lib.hid (by repeat (first | with_reducible exact Below.refl _ _ | with_reducible assumption | with_reducible refine Below.drew ?_ | with_reducible refine Below.drewN ?_ _ | with_reducible refine Below.alloc2 ?_ _ | with_reducible refine Below.alloc ?_ (by first | omega | (simp <;> omega)) _ | with_reducible refine Below.setCell ?_ (by first | omega | (simp <;> omega)) _ | with_reducible refine Below.step2 (by with_reducible assumption) ?_ | with_reducible refine Below.step (by with_reducible assumption) ?_ (by first | omega | (simp <;> omega))))
      have z1 := k3.lt
      have o1 : w.heap.size < w1.heap.size := by omega
      have o2 : w.heap.size + 1 < w1.heap.size := by omega
      obtain ⟨⟨_, _, _, _⟩, _, _, _, _⟩ := k1.four
      obtain ⟨⟨_, _⟩, _, _⟩ := k3.two
      have K1 := Lib.hid k1
      have K2 := Lib.hid k2
      clear hb1 k1 k2 k3
      go_wp2_with fail
      refine (HL2.out _).mono ?_
      rintro e w2 ⟨hb2, rfl⟩
      have k4 : Bk w2 w.heap.size 84 #[.int .i64 (-hi + a), .int .i64 (-b + a), .int .i64 t1, .int .i64 t2] := Bk.step hb2 (((K1.out.set_ 0 _).set_ 1 _).alloc _) (by first | (simp; omega) | (simp [World.setCell]; omega))
      have k5 : Bk w2 (w.heap.size + 1) 84 #[.int .i64 0, .int .i64 0, .int .i64 0, .int .i64 0] := Bk.step hb2 (((K2.out.other (by simp) _).other (by simp) _).alloc _) (by first | (simp; omega) | (simp [World.setCell]; omega))
      have k6 : Bk w2 w1.heap.size 82 #[.int .i64 (-lo + a), .int .i64 (-b + a)] := Bk.step hb2 (Bk.at_ (by first | (simp; done) | (simp [World.setCell]; done))) (by first | (simp; done) | (simp [World.setCell]; done))
      have hz2 := hb2.size
      have HB2 : Hid (Below w.heap.size w w2) := Lib.hid (by have hb := HB1.out; exact (by repeat (first | with_reducible exact Below.refl _ _ | with_reducible assumption | with_reducible refine Below.drew ?_ | with_reducible refine Below.drewN ?_ _ | with_reducible refine Below.alloc2 ?_ _ | with_reducible refine Below.alloc ?_ (by first | omega | (simp <;> omega)) _ | with_reducible refine Below.setCell ?_ (by first | omega | (simp <;> omega)) _ | with_reducible refine Below.step2 (by with_reducible assumption) ?_ | with_reducible refine Below.step (by with_reducible assumption) ?_ (by first | omega | (simp <;> omega)))))
      clear hb2
      obtain ⟨⟨_, _, _, _⟩, _, _, _, _⟩ := k4.four
      obtain ⟨⟨_, _, _, _⟩, _, _, _, _⟩ := k5.four
      obtain ⟨⟨_, _⟩, _, _⟩ := k6.two
      have o3 : w.heap.size < w2.heap.size := k4.lt
      have o4 : w.heap.size + 1 < w2.heap.size := k5.lt
      have hb := HB2.out
      go_wp2
      refine bodyPost_ret (v := .agg #[.int .i64 (-hi + a), .int .i64 (-b + a), .int .i64 t1, .int .i64 t2]) (by simp [results, Try.results48, go_sem, *]) rfl ⟨(by repeat (first | with_reducible exact Below.refl _ _ | with_reducible assumption | with_reducible refine Below.drew ?_ | with_reducible refine Below.drewN ?_ _ | with_reducible refine Below.alloc2 ?_ _ | with_reducible refine Below.alloc ?_ (by first | omega | (simp <;> omega)) _ | with_reducible refine Below.setCell ?_ (by first | omega | (simp <;> omega)) _ | with_reducible refine Below.step2 (by with_reducible assumption) ?_ | with_reducible refine Below.step (by with_reducible assumption) ?_ (by first | omega | (simp <;> omega)))), rfl⟩
    · rw [q2] at HL2
      rw [if_pos rfl, if_pos rfl]
      clear q1 q2
      go_enter Try.func48, Try.ntmps48
      go_wp2_with fail
      refine (HL1.out _).mono ?_
      rintro e w1 ⟨hb1, rfl⟩
      have k1 : Bk w1 w.heap.size 84 #[.int .i64 f1, .int .i64 f2, .int .i64 t1, .int .i64 t2] := (by repeat (first | with_reducible assumption | with_reducible exact Bk.at_ (by simp) | with_reducible refine Bk.alloc ?_ _ | with_reducible refine Bk.drew ?_ | with_reducible refine Bk.drewN ?_ _ | with_reducible refine Bk.step (by with_reducible assumption) ?_ (by first | omega | (simp <;> omega))))
      have k2 : Bk w1 (w.heap.size + 1) 84 #[.int .i64 0, .int .i64 0, .int .i64 0, .int .i64 0] := (by repeat (first | with_reducible assumption | with_reducible exact Bk.at_ (by simp) | with_reducible refine Bk.alloc ?_ _ | with_reducible refine Bk.drew ?_ | with_reducible refine Bk.drewN ?_ _ | with_reducible refine Bk.step (by with_reducible assumption) ?_ (by first | omega | (simp <;> omega))))
      have k3 : Bk w1 (w.heap.size + 1 + 1) 82 #[.int .i64 (-hi + a), .int .i64 (-b + a)] := (by repeat (first | with_reducible assumption | with_reducible exact Bk.at_ (by simp) | with_reducible refine Bk.alloc ?_ _ | with_reducible refine Bk.drew ?_ | with_reducible refine Bk.drewN ?_ _ | with_reducible refine Bk.step (by with_reducible assumption) ?_ (by first | omega | (simp <;> omega))))
      have HB1 : Hid (Below w.heap.size w w1) := Lib.hid (by repeat (first | with_reducible exact Below.refl _ _ | with_reducible assumption | with_reducible refine Below.drew ?_ | with_reducible refine Below.drewN ?_ _ | with_reducible refine Below.alloc2 ?_ _ | with_reducible refine Below.alloc ?_ (by first | omega | (simp <;> omega)) _ | with_reducible refine Below.setCell ?_ (by first | omega | (simp <;> omega)) _ | with_reducible refine Below.step2 (by with_reducible assumption) ?_ | with_reducible refine Below.step (by with_reducible assumption) ?_ (by first | omega | (simp <;> omega))))
      have z1 := k3.lt
      have o1 : w.heap.size < w1.heap.size := by omega
      have o2 : w.heap.size + 1 < w1.heap.size := by omega
      obtain ⟨⟨_, _, _, _⟩, _, _, _, _⟩ := k1.four
      obtain ⟨⟨_, _⟩, _, _⟩ := k3.two
      have K1 := Lib.hid k1
      have K2 := Lib.hid k2
      clear hb1 k1 k2 k3
      go_wp2_with fail
      refine (HL2.out _).mono ?_
      rintro e w2 ⟨hb2, rfl⟩
      have k4 : Bk w2 w.heap.size 84 #[.int .i64 (-hi + a), .int .i64 (-b + a), .int .i64 t1, .int .i64 t2] := Bk.step hb2 (((K1.out.set_ 0 _).set_ 1 _).alloc _) (by first | (simp; omega) | (simp [World.setCell]; omega))
      have k5 : Bk w2 (w.heap.size + 1) 84 #[.int .i64 0, .int .i64 0, .int .i64 0, .int .i64 0] := Bk.step hb2 (((K2.out.other (by simp) _).other (by simp) _).alloc _) (by first | (simp; omega) | (simp [World.setCell]; omega))
      have k6 : Bk w2 w1.heap.size 82 #[.int .i64 (-lo + a), .int .i64 (-b + a)] := Bk.step hb2 (Bk.at_ (by first | (simp; done) | (simp [World.setCell]; done))) (by first | (simp; done) | (simp [World.setCell]; done))
      have hz2 := hb2.size
      have HB2 : Hid (Below w.heap.size w w2) := Lib.hid (by have hb := HB1.out; exact (by repeat (first | with_reducible exact Below.refl _ _ | with_reducible assumption | with_reducible refine Below.drew ?_ | with_reducible refine Below.drewN ?_ _ | with_reducible refine Below.alloc2 ?_ _ | with_reducible refine Below.alloc ?_ (by first | omega | (simp <;> omega)) _ | with_reducible refine Below.setCell ?_ (by first | omega | (simp <;> omega)) _ | with_reducible refine Below.step2 (by with_reducible assumption) ?_ | with_reducible refine Below.step (by with_reducible assumption) ?_ (by first | omega | (simp <;> omega)))))
      clear hb2
      obtain ⟨⟨_, _, _, _⟩, _, _, _, _⟩ := k4.four
      obtain ⟨⟨_, _, _, _⟩, _, _, _, _⟩ := k5.four
      obtain ⟨⟨_, _⟩, _, _⟩ := k6.two
      have o3 : w.heap.size < w2.heap.size := k4.lt
      have o4 : w.heap.size + 1 < w2.heap.size := k5.lt
      have hb := HB2.out
      go_wp2
      refine bodyPost_ret (v := .agg #[.int .i64 (-hi + a), .int .i64 (-b + a), .int .i64 (-lo + a), .int .i64 (-b + a)]) (by simp [results, Try.results48, go_sem, *]) rfl ⟨(by repeat (first | with_reducible exact Below.refl _ _ | with_reducible assumption | with_reducible refine Below.drew ?_ | with_reducible refine Below.drewN ?_ _ | with_reducible refine Below.alloc2 ?_ _ | with_reducible refine Below.alloc ?_ (by first | omega | (simp <;> omega)) _ | with_reducible refine Below.setCell ?_ (by first | omega | (simp <;> omega)) _ | with_reducible refine Below.step2 (by with_reducible assumption) ?_ | with_reducible refine Below.step (by with_reducible assumption) ?_ (by first | omega | (simp <;> omega)))), rfl⟩

theorem fine_max {f r : Fr2} (hf : Fine f) (hr : Fine r) : Fine (maxP f r) := by unfold maxP; split <;> assumption
theorem fine_min {f r : Fr2} (hf : Fine f) (hr : Fine r) : Fine (minP f r) := by unfold minP; split <;> assumption
theorem fine_within {s : Fr2 × Fr2} {a b lo hi : Int} (h1 : Fine s.1) (h2 : Fine s.2) (ha : Co a) (hb : Co b) (hl : Co lo) (hh : Co hi) : Fine (withinP s a b lo hi).1 ∧ Fine (withinP s a b lo hi).2 := by
  unfold Co at *
  unfold withinP clipP
  split
  · split
    · exact ⟨h1, h2⟩
    · exact ⟨h1, h1⟩
  · split
    · exact ⟨fine_max h1 (by unfold Fine; simp only; omega), fine_min h2 (by unfold Fine; simp only; omega)⟩
    · exact ⟨fine_max h1 (by unfold Fine; simp only; omega), fine_min h2 (by unfold Fine; simp only; omega)⟩

/-- within, whatever the way. -/
theorem within_any2 (s : Fr2 × Fr2) (a b lo hi : Int) (w : World) (h1 : Fine s.1) (h2 : Fine s.2) (ha : Co a) (hb : Co b) (hl : Co lo) (hh : Co hi) :
    Calls Try.prog 48 #[.agg #[.int .i64 s.1.1, .int .i64 s.1.2, .int .i64 s.2.1, .int .i64 s.2.2], .int .i64 a, .int .i64 b, .int .i64 lo, .int .i64 hi] w fun e w' => Below w.heap.size w w' ∧
      e = .returned (.agg #[.int .i64 (withinP s a b lo hi).1.1, .int .i64 (withinP s a b lo hi).1.2, .int .i64 (withinP s a b lo hi).2.1, .int .i64 (withinP s a b lo hi).2.2]) := by
  obtain ⟨⟨f1, f2⟩, t1, t2⟩ := s
  rcases Int.lt_trichotomy a b with h | h | h
  · have hw : withinP ((f1, f2), (t1, t2)) a b lo hi = (maxP (f1, f2) (lo - a, b - a), minP (t1, t2) (hi - a, b - a)) := by
      unfold withinP clipP; rw [if_neg (by omega), if_neg (by omega)]
    rw [hw]
    exact within_up f1 f2 t1 t2 a b lo hi w h ha hb hl hh h1 h2
  · subst h
    have hs := within_still f1 f2 t1 t2 a lo hi w
    have hw : withinP ((f1, f2), (t1, t2)) a a lo hi = if lo < a ∧ a < hi then ((f1, f2), (t1, t2)) else ((f1, f2), (f1, f2)) := by unfold withinP; rw [if_pos rfl]
    rw [hw]
    by_cases ho : lo < a ∧ a < hi
    · rw [if_pos ho] at hs ⊢
      exact hs
    · rw [if_neg ho] at hs ⊢
      exact hs
  · have hw : withinP ((f1, f2), (t1, t2)) a b lo hi = (maxP (f1, f2) (-hi + a, -b + a), minP (t1, t2) (-lo + a, -b + a)) := by
      unfold withinP clipP
      rw [if_neg (by omega), if_pos h, show -hi - -a = -hi + a by omega, show -b - -a = -b + a by omega, show -lo - -a = -lo + a by omega]
    rw [hw]
    exact within_down f1 f2 t1 t2 a b lo hi w h ha hb hl hh h1 h2

end Go.Proofs.Ytbfbjpnmgcpjlaa
