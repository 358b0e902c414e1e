/- Chapter 6, walks: Select. -/
import Derived.Test.YtfnphhmcbdoojaaGreatDoorSelect6
namespace Go.Proofs.YtfnphhmcbdoojaaGreatDoor
open Go.RowKit

theorem Nums.pair {w : World} {g B : Nat} {x y : Int} (h : w.cell? ⟨g, 0, none⟩ = some (.int .i64 x)) (h2 : w.cell? ⟨g, 1, none⟩ = some (.int .i64 y)) (hg : g < B) : Nums w B (some ⟨g, 0, none⟩) 2 2 [x, y] :=
  ⟨⟨rfl, Nat.le_refl _, by omega, fun _ => ⟨g, 0, rfl, hg, fun k u hu => by
    match k, hu with
    | 0, hu => simp [i64s] at hu; subst hu; exact h
    | 1, hu => simp [i64s] at hu; subst hu; exact h2
    | k + 2, hu => simp [i64s] at hu⟩⟩⟩
theorem areFrom_two (lo hi x y : Int) (g : Nat) (w : World) (h : w.cell? ⟨g, 0, none⟩ = some (.int .i64 x)) (h2 : w.cell? ⟨g, 1, none⟩ = some (.int .i64 y)) (hg : g < w.heap.size) (b : Bool) (hb : (inR lo hi x && inR lo hi y) = b) :
    Calls Tryz.prog 56 #[.int .i64 lo, .int .i64 hi, .slice (some ⟨g, 0, none⟩) 2 2] w fun e w' => Below w.heap.size w w' ∧ e = .returned (.bool b) := by
  have := areFrom_any _ 2 2 [x, y] lo hi w (Nums.pair h h2 hg)
  rwa [show allIn lo hi [x, y] = b by rw [← hb]; simp [allIn, inR]] at this

set_option maxHeartbeats 4000000 in
theorem select_bad (f : Int) (A A2 : Option Addr) (n c m c2 : Nat) (st ri sh G : Int) (w : World)
    (c1 : ∀ w', Below w.heap.size w w' → Calls Tryz.prog 13 #[.agg #[.int .i64 f, .slice A n c, .slice A2 m c2]] w' fun e w'' => Below w'.heap.size w' w'' ∧ e = .returned (.int .i64 G))
    (h : G ≠ 0 ∨ patErr st ri sh ≠ 0) : Calls Tryz.prog 17 #[.agg #[.int .i64 f, .slice A n c, .slice A2 m c2], .agg #[.int .i64 st, .int .i64 ri, .int .i64 sh]] w fun e w' => Below w.heap.size w w' ∧ e = .returned (.tuple #[.slice none 0 0, .int .i64 (if G ≠ 0 then G else 2)]) := by
  have C1 := Lib.hid c1
  clear c1
  unfold patErr at h
  obtain ⟨b1, e1⟩ : ∃ v, (inR 1 30 st && inR 1 30 ri) = v := ⟨_, rfl⟩
  obtain ⟨b2, e2⟩ : ∃ v, inR 0 30 sh = v := ⟨_, rfl⟩
  rw [← Bool.and_assoc, e1, e2] at h
  have E1 := Lib.hid e1
  have E2 := Lib.hid e2
  clear e1 e2
  by_cases hg : G = 0
  · subst hg
    simp only [ne_eq, not_true_eq_false, if_false, false_or] at h ⊢
    cases b1
    · clear h
      (
          go_enter Tryz.func17, Tryz.ntmps17
          go_wp2_with (first
      | (go_at_call 13; with_reducible refine (C1.out _ ?_).mono ?_; (focus (exact (by repeat (first | with_reducible exact Below.refl _ _ | with_reducible assumption | with_reducible refine Below.drew ?_ | with_reducible refine Below.drewN ?_ _ | with_reducible refine Below.alloc2 ?_ _ | with_reducible refine Below.alloc ?_ (by first | omega | (simp <;> omega)) _ | with_reducible refine Below.setCell ?_ (by first | omega | (simp <;> omega)) _ | with_reducible refine Below.step2 (by with_reducible assumption) ?_ | with_reducible refine Below.step (by with_reducible assumption) ?_ (by first | omega | (simp <;> omega)))))); rintro e w1 ⟨hb1, rfl⟩; have hbk1 : Bk w1 w.heap.size 24 #[.int .i64 f, .slice A n c, .slice A2 m c2] := (by repeat (first | with_reducible assumption | with_reducible exact Bk.at_ (by first | (simp; done) | omega) | with_reducible refine Bk.alloc ?_ _ | with_reducible refine Bk.drew ?_ | with_reducible refine Bk.drewN ?_ _ | with_reducible refine Bk.step (by with_reducible assumption) ?_ (by first | omega | (simp <;> omega)))); have hbp1 : Bk w1 (w.heap.size + 1) 35 #[.int .i64 st, .int .i64 ri, .int .i64 sh] := (by repeat (first | with_reducible assumption | with_reducible exact Bk.at_ (by first | (simp; done) | omega) | with_reducible refine Bk.alloc ?_ _ | with_reducible refine Bk.drew ?_ | with_reducible refine Bk.drewN ?_ _ | with_reducible refine Bk.step (by with_reducible assumption) ?_ (by first | omega | (simp <;> omega)))); obtain ⟨⟨q0, q1, q2⟩, -⟩ := hbk1.three; obtain ⟨⟨r0, r1, r2⟩, -⟩ := hbp1.three; have oz1 := hb1.size; (try simp at oz1); have hbx : Below w.heap.size w w1 := (by repeat (first | with_reducible exact Below.refl _ _ | with_reducible assumption | with_reducible refine Below.drew ?_ | with_reducible refine Below.drewN ?_ _ | with_reducible refine Below.alloc2 ?_ _ | with_reducible refine Below.alloc ?_ (by first | omega | (simp <;> omega)) _ | with_reducible refine Below.setCell ?_ (by first | omega | (simp <;> omega)) _ | with_reducible refine Below.step2 (by with_reducible assumption) ?_ | with_reducible refine Below.step (by with_reducible assumption) ?_ (by first | omega | (simp <;> omega)))); have HB1 := Lib.hid hbx; have HBK1 := Lib.hid hbk1; have HBP1 := Lib.hid hbp1)
      | (go_at_call 56; with_reducible refine (areFrom_two 1 30 st ri _ _ ?_ ?_ ?_ _ E1.out).mono ?_; (focus (simp; done)); (focus (simp; done)); (focus (simp; done)); rintro e w1 ⟨hb1, rfl⟩; have hbk1 : Bk w1 w.heap.size 24 #[.int .i64 f, .slice A n c, .slice A2 m c2] := (by repeat (first | with_reducible assumption | with_reducible exact Bk.at_ (by first | (simp; done) | omega) | with_reducible refine Bk.alloc ?_ _ | with_reducible refine Bk.drew ?_ | with_reducible refine Bk.drewN ?_ _ | with_reducible refine Bk.step (by with_reducible assumption) ?_ (by first | omega | (simp <;> omega)))); have hbp1 : Bk w1 (w.heap.size + 1) 35 #[.int .i64 st, .int .i64 ri, .int .i64 sh] := (by repeat (first | with_reducible assumption | with_reducible exact Bk.at_ (by first | (simp; done) | omega) | with_reducible refine Bk.alloc ?_ _ | with_reducible refine Bk.drew ?_ | with_reducible refine Bk.drewN ?_ _ | with_reducible refine Bk.step (by with_reducible assumption) ?_ (by first | omega | (simp <;> omega)))); obtain ⟨⟨q0, q1, q2⟩, -⟩ := hbk1.three; obtain ⟨⟨r0, r1, r2⟩, -⟩ := hbp1.three; have oz1 := hb1.size; (try simp at oz1); have hbx : Below w.heap.size w w1 := (by repeat (first | with_reducible exact Below.refl _ _ | with_reducible assumption | with_reducible refine Below.drew ?_ | with_reducible refine Below.drewN ?_ _ | with_reducible refine Below.alloc2 ?_ _ | with_reducible refine Below.alloc ?_ (by first | omega | (simp <;> omega)) _ | with_reducible refine Below.setCell ?_ (by first | omega | (simp <;> omega)) _ | with_reducible refine Below.step2 (by with_reducible assumption) ?_ | with_reducible refine Below.step (by with_reducible assumption) ?_ (by first | omega | (simp <;> omega)))); have HB1 := Lib.hid hbx; have HBK1 := Lib.hid hbk1; have HBP1 := Lib.hid hbp1)
      | (go_at_call 56; with_reducible refine (areFrom_one 0 30 sh _ _ ?_ ?_ _ E2.out).mono ?_; (focus (simp; done)); (focus (simp; done)); rintro e w1 ⟨hb1, rfl⟩; have hbk1 : Bk w1 w.heap.size 24 #[.int .i64 f, .slice A n c, .slice A2 m c2] := (by repeat (first | with_reducible assumption | with_reducible exact Bk.at_ (by first | (simp; done) | omega) | with_reducible refine Bk.alloc ?_ _ | with_reducible refine Bk.drew ?_ | with_reducible refine Bk.drewN ?_ _ | with_reducible refine Bk.step (by with_reducible assumption) ?_ (by first | omega | (simp <;> omega)))); have hbp1 : Bk w1 (w.heap.size + 1) 35 #[.int .i64 st, .int .i64 ri, .int .i64 sh] := (by repeat (first | with_reducible assumption | with_reducible exact Bk.at_ (by first | (simp; done) | omega) | with_reducible refine Bk.alloc ?_ _ | with_reducible refine Bk.drew ?_ | with_reducible refine Bk.drewN ?_ _ | with_reducible refine Bk.step (by with_reducible assumption) ?_ (by first | omega | (simp <;> omega)))); obtain ⟨⟨q0, q1, q2⟩, -⟩ := hbk1.three; obtain ⟨⟨r0, r1, r2⟩, -⟩ := hbp1.three; have oz1 := hb1.size; (try simp at oz1); have hbx : Below w.heap.size w w1 := (by repeat (first | with_reducible exact Below.refl _ _ | with_reducible assumption | with_reducible refine Below.drew ?_ | with_reducible refine Below.drewN ?_ _ | with_reducible refine Below.alloc2 ?_ _ | with_reducible refine Below.alloc ?_ (by first | omega | (simp <;> omega)) _ | with_reducible refine Below.setCell ?_ (by first | omega | (simp <;> omega)) _ | with_reducible refine Below.step2 (by with_reducible assumption) ?_ | with_reducible refine Below.step (by with_reducible assumption) ?_ (by first | omega | (simp <;> omega)))); have HB1 := Lib.hid hbx; have HBK1 := Lib.hid hbk1; have HBP1 := Lib.hid hbp1))
          refine bodyPost_ret (results_tmp2 rfl _ _ _) rfl ?_
          exact ⟨(by repeat (first | with_reducible exact Below.refl _ _ | with_reducible assumption | with_reducible refine Below.drew ?_ | with_reducible refine Below.drewN ?_ _ | with_reducible refine Below.alloc2 ?_ _ | with_reducible refine Below.alloc ?_ (by first | omega | (simp <;> omega)) _ | with_reducible refine Below.setCell ?_ (by first | omega | (simp <;> omega)) _ | with_reducible refine Below.step2 (by with_reducible assumption) ?_ | with_reducible refine Below.step (by with_reducible assumption) ?_ (by first | omega | (simp <;> omega)))), rfl⟩)
    · cases b2
      · clear h
        (
            go_enter Tryz.func17, Tryz.ntmps17
            go_wp2_with (first
        | (go_at_call 13; with_reducible refine (C1.out _ ?_).mono ?_; (focus (exact (by repeat (first | with_reducible exact Below.refl _ _ | with_reducible assumption | with_reducible refine Below.drew ?_ | with_reducible refine Below.drewN ?_ _ | with_reducible refine Below.alloc2 ?_ _ | with_reducible refine Below.alloc ?_ (by first | omega | (simp <;> omega)) _ | with_reducible refine Below.setCell ?_ (by first | omega | (simp <;> omega)) _ | with_reducible refine Below.step2 (by with_reducible assumption) ?_ | with_reducible refine Below.step (by with_reducible assumption) ?_ (by first | omega | (simp <;> omega)))))); rintro e w1 ⟨hb1, rfl⟩; have hbk1 : Bk w1 w.heap.size 24 #[.int .i64 f, .slice A n c, .slice A2 m c2] := (by repeat (first | with_reducible assumption | with_reducible exact Bk.at_ (by first | (simp; done) | omega) | with_reducible refine Bk.alloc ?_ _ | with_reducible refine Bk.drew ?_ | with_reducible refine Bk.drewN ?_ _ | with_reducible refine Bk.step (by with_reducible assumption) ?_ (by first | omega | (simp <;> omega)))); have hbp1 : Bk w1 (w.heap.size + 1) 35 #[.int .i64 st, .int .i64 ri, .int .i64 sh] := (by repeat (first | with_reducible assumption | with_reducible exact Bk.at_ (by first | (simp; done) | omega) | with_reducible refine Bk.alloc ?_ _ | with_reducible refine Bk.drew ?_ | with_reducible refine Bk.drewN ?_ _ | with_reducible refine Bk.step (by with_reducible assumption) ?_ (by first | omega | (simp <;> omega)))); obtain ⟨⟨q0, q1, q2⟩, -⟩ := hbk1.three; obtain ⟨⟨r0, r1, r2⟩, -⟩ := hbp1.three; have oz1 := hb1.size; (try simp at oz1); have hbx : Below w.heap.size w w1 := (by repeat (first | with_reducible exact Below.refl _ _ | with_reducible assumption | with_reducible refine Below.drew ?_ | with_reducible refine Below.drewN ?_ _ | with_reducible refine Below.alloc2 ?_ _ | with_reducible refine Below.alloc ?_ (by first | omega | (simp <;> omega)) _ | with_reducible refine Below.setCell ?_ (by first | omega | (simp <;> omega)) _ | with_reducible refine Below.step2 (by with_reducible assumption) ?_ | with_reducible refine Below.step (by with_reducible assumption) ?_ (by first | omega | (simp <;> omega)))); have HB1 := Lib.hid hbx; have HBK1 := Lib.hid hbk1; have HBP1 := Lib.hid hbp1)
        | (go_at_call 56; with_reducible refine (areFrom_two 1 30 st ri _ _ ?_ ?_ ?_ _ E1.out).mono ?_; (focus (simp; done)); (focus (simp; done)); (focus (simp; done)); rintro e w1 ⟨hb1, rfl⟩; have hbk1 : Bk w1 w.heap.size 24 #[.int .i64 f, .slice A n c, .slice A2 m c2] := (by repeat (first | with_reducible assumption | with_reducible exact Bk.at_ (by first | (simp; done) | omega) | with_reducible refine Bk.alloc ?_ _ | with_reducible refine Bk.drew ?_ | with_reducible refine Bk.drewN ?_ _ | with_reducible refine Bk.step (by with_reducible assumption) ?_ (by first | omega | (simp <;> omega)))); have hbp1 : Bk w1 (w.heap.size + 1) 35 #[.int .i64 st, .int .i64 ri, .int .i64 sh] := (by repeat (first | with_reducible assumption | with_reducible exact Bk.at_ (by first | (simp; done) | omega) | with_reducible refine Bk.alloc ?_ _ | with_reducible refine Bk.drew ?_ | with_reducible refine Bk.drewN ?_ _ | with_reducible refine Bk.step (by with_reducible assumption) ?_ (by first | omega | (simp <;> omega)))); obtain ⟨⟨q0, q1, q2⟩, -⟩ := hbk1.three; obtain ⟨⟨r0, r1, r2⟩, -⟩ := hbp1.three; have oz1 := hb1.size; (try simp at oz1); have hbx : Below w.heap.size w w1 := (by repeat (first | with_reducible exact Below.refl _ _ | with_reducible assumption | with_reducible refine Below.drew ?_ | with_reducible refine Below.drewN ?_ _ | with_reducible refine Below.alloc2 ?_ _ | with_reducible refine Below.alloc ?_ (by first | omega | (simp <;> omega)) _ | with_reducible refine Below.setCell ?_ (by first | omega | (simp <;> omega)) _ | with_reducible refine Below.step2 (by with_reducible assumption) ?_ | with_reducible refine Below.step (by with_reducible assumption) ?_ (by first | omega | (simp <;> omega)))); have HB1 := Lib.hid hbx; have HBK1 := Lib.hid hbk1; have HBP1 := Lib.hid hbp1)
        | (go_at_call 56; with_reducible refine (areFrom_one 0 30 sh _ _ ?_ ?_ _ E2.out).mono ?_; (focus (simp; done)); (focus (simp; done)); rintro e w1 ⟨hb1, rfl⟩; have hbk1 : Bk w1 w.heap.size 24 #[.int .i64 f, .slice A n c, .slice A2 m c2] := (by repeat (first | with_reducible assumption | with_reducible exact Bk.at_ (by first | (simp; done) | omega) | with_reducible refine Bk.alloc ?_ _ | with_reducible refine Bk.drew ?_ | with_reducible refine Bk.drewN ?_ _ | with_reducible refine Bk.step (by with_reducible assumption) ?_ (by first | omega | (simp <;> omega)))); have hbp1 : Bk w1 (w.heap.size + 1) 35 #[.int .i64 st, .int .i64 ri, .int .i64 sh] := (by repeat (first | with_reducible assumption | with_reducible exact Bk.at_ (by first | (simp; done) | omega) | with_reducible refine Bk.alloc ?_ _ | with_reducible refine Bk.drew ?_ | with_reducible refine Bk.drewN ?_ _ | with_reducible refine Bk.step (by with_reducible assumption) ?_ (by first | omega | (simp <;> omega)))); obtain ⟨⟨q0, q1, q2⟩, -⟩ := hbk1.three; obtain ⟨⟨r0, r1, r2⟩, -⟩ := hbp1.three; have oz1 := hb1.size; (try simp at oz1); have hbx : Below w.heap.size w w1 := (by repeat (first | with_reducible exact Below.refl _ _ | with_reducible assumption | with_reducible refine Below.drew ?_ | with_reducible refine Below.drewN ?_ _ | with_reducible refine Below.alloc2 ?_ _ | with_reducible refine Below.alloc ?_ (by first | omega | (simp <;> omega)) _ | with_reducible refine Below.setCell ?_ (by first | omega | (simp <;> omega)) _ | with_reducible refine Below.step2 (by with_reducible assumption) ?_ | with_reducible refine Below.step (by with_reducible assumption) ?_ (by first | omega | (simp <;> omega)))); have HB1 := Lib.hid hbx; have HBK1 := Lib.hid hbk1; have HBP1 := Lib.hid hbp1))
            refine bodyPost_ret (results_tmp2 rfl _ _ _) rfl ?_
            exact ⟨(by repeat (first | with_reducible exact Below.refl _ _ | with_reducible assumption | with_reducible refine Below.drew ?_ | with_reducible refine Below.drewN ?_ _ | with_reducible refine Below.alloc2 ?_ _ | with_reducible refine Below.alloc ?_ (by first | omega | (simp <;> omega)) _ | with_reducible refine Below.setCell ?_ (by first | omega | (simp <;> omega)) _ | with_reducible refine Below.step2 (by with_reducible assumption) ?_ | with_reducible refine Below.step (by with_reducible assumption) ?_ (by first | omega | (simp <;> omega)))), rfl⟩)
      · simp at h
  · have hgb : (G != 0) = true := by simpa using hg
    simp only [ne_eq, hg, not_false_eq_true, if_true]
    clear h
    (
        go_enter Tryz.func17, Tryz.ntmps17
        go_wp2_with (first
    | (go_at_call 13; with_reducible refine (C1.out _ ?_).mono ?_; (focus (exact (by repeat (first | with_reducible exact Below.refl _ _ | with_reducible assumption | with_reducible refine Below.drew ?_ | with_reducible refine Below.drewN ?_ _ | with_reducible refine Below.alloc2 ?_ _ | with_reducible refine Below.alloc ?_ (by first | omega | (simp <;> omega)) _ | with_reducible refine Below.setCell ?_ (by first | omega | (simp <;> omega)) _ | with_reducible refine Below.step2 (by with_reducible assumption) ?_ | with_reducible refine Below.step (by with_reducible assumption) ?_ (by first | omega | (simp <;> omega)))))); rintro e w1 ⟨hb1, rfl⟩; have hbk1 : Bk w1 w.heap.size 24 #[.int .i64 f, .slice A n c, .slice A2 m c2] := (by repeat (first | with_reducible assumption | with_reducible exact Bk.at_ (by first | (simp; done) | omega) | with_reducible refine Bk.alloc ?_ _ | with_reducible refine Bk.drew ?_ | with_reducible refine Bk.drewN ?_ _ | with_reducible refine Bk.step (by with_reducible assumption) ?_ (by first | omega | (simp <;> omega)))); have hbp1 : Bk w1 (w.heap.size + 1) 35 #[.int .i64 st, .int .i64 ri, .int .i64 sh] := (by repeat (first | with_reducible assumption | with_reducible exact Bk.at_ (by first | (simp; done) | omega) | with_reducible refine Bk.alloc ?_ _ | with_reducible refine Bk.drew ?_ | with_reducible refine Bk.drewN ?_ _ | with_reducible refine Bk.step (by with_reducible assumption) ?_ (by first | omega | (simp <;> omega)))); obtain ⟨⟨q0, q1, q2⟩, -⟩ := hbk1.three; obtain ⟨⟨r0, r1, r2⟩, -⟩ := hbp1.three; have oz1 := hb1.size; (try simp at oz1); have hbx : Below w.heap.size w w1 := (by repeat (first | with_reducible exact Below.refl _ _ | with_reducible assumption | with_reducible refine Below.drew ?_ | with_reducible refine Below.drewN ?_ _ | with_reducible refine Below.alloc2 ?_ _ | with_reducible refine Below.alloc ?_ (by first | omega | (simp <;> omega)) _ | with_reducible refine Below.setCell ?_ (by first | omega | (simp <;> omega)) _ | with_reducible refine Below.step2 (by with_reducible assumption) ?_ | with_reducible refine Below.step (by with_reducible assumption) ?_ (by first | omega | (simp <;> omega)))); have HB1 := Lib.hid hbx; have HBK1 := Lib.hid hbk1; have HBP1 := Lib.hid hbp1)
    | (go_at_call 56; with_reducible refine (areFrom_two 1 30 st ri _ _ ?_ ?_ ?_ _ E1.out).mono ?_; (focus (simp; done)); (focus (simp; done)); (focus (simp; done)); rintro e w1 ⟨hb1, rfl⟩; have hbk1 : Bk w1 w.heap.size 24 #[.int .i64 f, .slice A n c, .slice A2 m c2] := (by repeat (first | with_reducible assumption | with_reducible exact Bk.at_ (by first | (simp; done) | omega) | with_reducible refine Bk.alloc ?_ _ | with_reducible refine Bk.drew ?_ | with_reducible refine Bk.drewN ?_ _ | with_reducible refine Bk.step (by with_reducible assumption) ?_ (by first | omega | (simp <;> omega)))); have hbp1 : Bk w1 (w.heap.size + 1) 35 #[.int .i64 st, .int .i64 ri, .int .i64 sh] := (by repeat (first | with_reducible assumption | with_reducible exact Bk.at_ (by first | (simp; done) | omega) | with_reducible refine Bk.alloc ?_ _ | with_reducible refine Bk.drew ?_ | with_reducible refine Bk.drewN ?_ _ | with_reducible refine Bk.step (by with_reducible assumption) ?_ (by first | omega | (simp <;> omega)))); obtain ⟨⟨q0, q1, q2⟩, -⟩ := hbk1.three; obtain ⟨⟨r0, r1, r2⟩, -⟩ := hbp1.three; have oz1 := hb1.size; (try simp at oz1); have hbx : Below w.heap.size w w1 := (by repeat (first | with_reducible exact Below.refl _ _ | with_reducible assumption | with_reducible refine Below.drew ?_ | with_reducible refine Below.drewN ?_ _ | with_reducible refine Below.alloc2 ?_ _ | with_reducible refine Below.alloc ?_ (by first | omega | (simp <;> omega)) _ | with_reducible refine Below.setCell ?_ (by first | omega | (simp <;> omega)) _ | with_reducible refine Below.step2 (by with_reducible assumption) ?_ | with_reducible refine Below.step (by with_reducible assumption) ?_ (by first | omega | (simp <;> omega)))); have HB1 := Lib.hid hbx; have HBK1 := Lib.hid hbk1; have HBP1 := Lib.hid hbp1)
    | (go_at_call 56; with_reducible refine (areFrom_one 0 30 sh _ _ ?_ ?_ _ E2.out).mono ?_; (focus (simp; done)); (focus (simp; done)); rintro e w1 ⟨hb1, rfl⟩; have hbk1 : Bk w1 w.heap.size 24 #[.int .i64 f, .slice A n c, .slice A2 m c2] := (by repeat (first | with_reducible assumption | with_reducible exact Bk.at_ (by first | (simp; done) | omega) | with_reducible refine Bk.alloc ?_ _ | with_reducible refine Bk.drew ?_ | with_reducible refine Bk.drewN ?_ _ | with_reducible refine Bk.step (by with_reducible assumption) ?_ (by first | omega | (simp <;> omega)))); have hbp1 : Bk w1 (w.heap.size + 1) 35 #[.int .i64 st, .int .i64 ri, .int .i64 sh] := (by repeat (first | with_reducible assumption | with_reducible exact Bk.at_ (by first | (simp; done) | omega) | with_reducible refine Bk.alloc ?_ _ | with_reducible refine Bk.drew ?_ | with_reducible refine Bk.drewN ?_ _ | with_reducible refine Bk.step (by with_reducible assumption) ?_ (by first | omega | (simp <;> omega)))); obtain ⟨⟨q0, q1, q2⟩, -⟩ := hbk1.three; obtain ⟨⟨r0, r1, r2⟩, -⟩ := hbp1.three; have oz1 := hb1.size; (try simp at oz1); have hbx : Below w.heap.size w w1 := (by repeat (first | with_reducible exact Below.refl _ _ | with_reducible assumption | with_reducible refine Below.drew ?_ | with_reducible refine Below.drewN ?_ _ | with_reducible refine Below.alloc2 ?_ _ | with_reducible refine Below.alloc ?_ (by first | omega | (simp <;> omega)) _ | with_reducible refine Below.setCell ?_ (by first | omega | (simp <;> omega)) _ | with_reducible refine Below.step2 (by with_reducible assumption) ?_ | with_reducible refine Below.step (by with_reducible assumption) ?_ (by first | omega | (simp <;> omega)))); have HB1 := Lib.hid hbx; have HBK1 := Lib.hid hbk1; have HBP1 := Lib.hid hbp1))
        refine bodyPost_ret (results_tmp2 rfl _ _ _) rfl ?_
        exact ⟨(by repeat (first | with_reducible exact Below.refl _ _ | with_reducible assumption | with_reducible refine Below.drew ?_ | with_reducible refine Below.drewN ?_ _ | with_reducible refine Below.alloc2 ?_ _ | with_reducible refine Below.alloc ?_ (by first | omega | (simp <;> omega)) _ | with_reducible refine Below.setCell ?_ (by first | omega | (simp <;> omega)) _ | with_reducible refine Below.step2 (by with_reducible assumption) ?_ | with_reducible refine Below.step (by with_reducible assumption) ?_ (by first | omega | (simp <;> omega)))), rfl⟩)

set_option maxRecDepth 100000 in
set_option maxHeartbeats 8000000 in
theorem select_ok (f : Int) (A A2 : Option Addr) (n c m c2 st ri sh : Nat) (w : World) (hn : n ≤ 60) (hm : m ≤ 30) (hnc : n ≤ c) (hc1 : c ≤ 9223372036854775807) (hst : 1 ≤ st) (hst2 : st ≤ 30) (hri : 1 ≤ ri) (hri2 : ri ≤ 30) (hsh : sh ≤ 30)
    (c1 : ∀ w', Below w.heap.size w w' → Calls Tryz.prog 13 #[.agg #[.int .i64 f, .slice A n c, .slice A2 m c2]] w' fun e w'' => Below w'.heap.size w' w'' ∧ e = .returned (.int .i64 0)) :
    Calls Tryz.prog 17 #[.agg #[.int .i64 f, .slice A n c, .slice A2 m c2], .agg #[.int .i64 (st : Int), .int .i64 (ri : Int), .int .i64 (sh : Int)]] w fun e w' => Below w.heap.size w w' ∧ ∃ A' c', e = .returned (.tuple #[.slice A' (selTo st ri sh (m / ri) n).length c', .int .i64 0]) ∧ Pts w' w'.heap.size A' (selTo st ri sh (m / ri) n).length c' (selTo st ri sh (m / ri) n) := by
  have C1 := Lib.hid c1
  have E1 : Hid ((inR 1 30 (st : Int) && inR 1 30 (ri : Int)) = true) := Lib.hid (by simp [inR]; omega)
  have E2 : Hid (inR 0 30 (sh : Int) = true) := Lib.hid (by simp [inR]; omega)
  clear c1
  obtain ⟨i0, hi0, hz0, hz1, hz2⟩ := info_parts info_tie
  have HI0 := Lib.hid hi0
  have HZ0 := Lib.hid hz0
  have HZ1 := Lib.hid hz1
  have HZ2 := Lib.hid hz2
  clear hi0 hz0 hz1 hz2
  obtain ⟨R, hR⟩ : ∃ R, m / ri = R := ⟨_, rfl⟩
  have hRm : R ≤ 30 := by rw [← hR]; have := Nat.div_le_self m ri; omega
  have hRq : (m : Int) / (ri : Int) = (R : Int) := by rw [← Int.natCast_ediv, hR]
  have hRt : IntKind.i64.wrap ((m : Int).tdiv (ri : Int)) = (R : Int) := by rw [Int.tdiv_eq_ediv_of_nonneg (by omega), hRq]; exact IntWalk.i64_in _ (by omega)
  have hRw : IntKind.i64.wrap (R : Int) = (R : Int) := IntWalk.i64_in _ (by omega)
  have hri0 : ((ri : Int) == 0) = false := by simp; omega
  have hri1 : ¬ (ri : Int) = 0 := by omega
  rw [hR]
  clear hR
  go_enter Tryz.func17, Tryz.ntmps17
  go_wp2_with (first
        | (go_at_call 13; with_reducible refine (C1.out _ ?_).mono ?_; (focus (exact (by repeat (first | with_reducible exact Below.refl _ _ | with_reducible assumption | with_reducible refine Below.drew ?_ | with_reducible refine Below.drewN ?_ _ | with_reducible refine Below.alloc2 ?_ _ | with_reducible refine Below.alloc ?_ (by first | omega | (simp <;> omega)) _ | with_reducible refine Below.setCell ?_ (by first | omega | (simp <;> omega)) _ | with_reducible refine Below.step2 (by with_reducible assumption) ?_ | with_reducible refine Below.step (by with_reducible assumption) ?_ (by first | omega | (simp <;> omega)))))); rintro e w1 ⟨hb1, rfl⟩; have hbk1 : Bk w1 w.heap.size 24 #[.int .i64 f, .slice A n c, .slice A2 m c2] := (by repeat (first | with_reducible assumption | with_reducible exact Bk.at_ (by first | (simp; done) | omega) | with_reducible refine Bk.alloc ?_ _ | with_reducible refine Bk.drew ?_ | with_reducible refine Bk.drewN ?_ _ | with_reducible refine Bk.step (by with_reducible assumption) ?_ (by first | omega | (simp <;> omega)))); have hbp1 : Bk w1 (w.heap.size + 1) 35 #[.int .i64 (st : Int), .int .i64 (ri : Int), .int .i64 (sh : Int)] := (by repeat (first | with_reducible assumption | with_reducible exact Bk.at_ (by first | (simp; done) | omega) | with_reducible refine Bk.alloc ?_ _ | with_reducible refine Bk.drew ?_ | with_reducible refine Bk.drewN ?_ _ | with_reducible refine Bk.step (by with_reducible assumption) ?_ (by first | omega | (simp <;> omega)))); obtain ⟨⟨q0, q1, q2⟩, -⟩ := hbk1.three; obtain ⟨⟨r0, r1, r2⟩, -⟩ := hbp1.three; have oz1 := hb1.size; (try simp at oz1); have hbx : Below w.heap.size w w1 := (by repeat (first | with_reducible exact Below.refl _ _ | with_reducible assumption | with_reducible refine Below.drew ?_ | with_reducible refine Below.drewN ?_ _ | with_reducible refine Below.alloc2 ?_ _ | with_reducible refine Below.alloc ?_ (by first | omega | (simp <;> omega)) _ | with_reducible refine Below.setCell ?_ (by first | omega | (simp <;> omega)) _ | with_reducible refine Below.step2 (by with_reducible assumption) ?_ | with_reducible refine Below.step (by with_reducible assumption) ?_ (by first | omega | (simp <;> omega)))); have HB1 := Lib.hid hbx; have HBK1 := Lib.hid hbk1; have HBP1 := Lib.hid hbp1)
        | (go_at_call 56; with_reducible refine (areFrom_two 1 30 (st : Int) (ri : Int) _ _ ?_ ?_ ?_ _ E1.out).mono ?_; (focus (simp; done)); (focus (simp; done)); (focus (simp; done)); rintro e w1 ⟨hb1, rfl⟩; have hbk1 : Bk w1 w.heap.size 24 #[.int .i64 f, .slice A n c, .slice A2 m c2] := (by repeat (first | with_reducible assumption | with_reducible exact Bk.at_ (by first | (simp; done) | omega) | with_reducible refine Bk.alloc ?_ _ | with_reducible refine Bk.drew ?_ | with_reducible refine Bk.drewN ?_ _ | with_reducible refine Bk.step (by with_reducible assumption) ?_ (by first | omega | (simp <;> omega)))); have hbp1 : Bk w1 (w.heap.size + 1) 35 #[.int .i64 (st : Int), .int .i64 (ri : Int), .int .i64 (sh : Int)] := (by repeat (first | with_reducible assumption | with_reducible exact Bk.at_ (by first | (simp; done) | omega) | with_reducible refine Bk.alloc ?_ _ | with_reducible refine Bk.drew ?_ | with_reducible refine Bk.drewN ?_ _ | with_reducible refine Bk.step (by with_reducible assumption) ?_ (by first | omega | (simp <;> omega)))); obtain ⟨⟨q0, q1, q2⟩, -⟩ := hbk1.three; obtain ⟨⟨r0, r1, r2⟩, -⟩ := hbp1.three; have oz1 := hb1.size; (try simp at oz1); have hbx : Below w.heap.size w w1 := (by repeat (first | with_reducible exact Below.refl _ _ | with_reducible assumption | with_reducible refine Below.drew ?_ | with_reducible refine Below.drewN ?_ _ | with_reducible refine Below.alloc2 ?_ _ | with_reducible refine Below.alloc ?_ (by first | omega | (simp <;> omega)) _ | with_reducible refine Below.setCell ?_ (by first | omega | (simp <;> omega)) _ | with_reducible refine Below.step2 (by with_reducible assumption) ?_ | with_reducible refine Below.step (by with_reducible assumption) ?_ (by first | omega | (simp <;> omega)))); have HB1 := Lib.hid hbx; have HBK1 := Lib.hid hbk1; have HBP1 := Lib.hid hbp1)
        | (go_at_call 56; with_reducible refine (areFrom_one 0 30 (sh : Int) _ _ ?_ ?_ _ E2.out).mono ?_; (focus (simp; done)); (focus (simp; done)); rintro e w1 ⟨hb1, rfl⟩; have hbk1 : Bk w1 w.heap.size 24 #[.int .i64 f, .slice A n c, .slice A2 m c2] := (by repeat (first | with_reducible assumption | with_reducible exact Bk.at_ (by first | (simp; done) | omega) | with_reducible refine Bk.alloc ?_ _ | with_reducible refine Bk.drew ?_ | with_reducible refine Bk.drewN ?_ _ | with_reducible refine Bk.step (by with_reducible assumption) ?_ (by first | omega | (simp <;> omega)))); have hbp1 : Bk w1 (w.heap.size + 1) 35 #[.int .i64 (st : Int), .int .i64 (ri : Int), .int .i64 (sh : Int)] := (by repeat (first | with_reducible assumption | with_reducible exact Bk.at_ (by first | (simp; done) | omega) | with_reducible refine Bk.alloc ?_ _ | with_reducible refine Bk.drew ?_ | with_reducible refine Bk.drewN ?_ _ | with_reducible refine Bk.step (by with_reducible assumption) ?_ (by first | omega | (simp <;> omega)))); obtain ⟨⟨q0, q1, q2⟩, -⟩ := hbk1.three; obtain ⟨⟨r0, r1, r2⟩, -⟩ := hbp1.three; have oz1 := hb1.size; (try simp at oz1); have hbx : Below w.heap.size w w1 := (by repeat (first | with_reducible exact Below.refl _ _ | with_reducible assumption | with_reducible refine Below.drew ?_ | with_reducible refine Below.drewN ?_ _ | with_reducible refine Below.alloc2 ?_ _ | with_reducible refine Below.alloc ?_ (by first | omega | (simp <;> omega)) _ | with_reducible refine Below.setCell ?_ (by first | omega | (simp <;> omega)) _ | with_reducible refine Below.step2 (by with_reducible assumption) ?_ | with_reducible refine Below.step (by with_reducible assumption) ?_ (by first | omega | (simp <;> omega)))); have HB1 := Lib.hid hbx; have HBK1 := Lib.hid hbk1; have HBP1 := Lib.hid hbp1))
  go_loopw [7, 8, 9, 32] (fun v _ _ x wr => ∃ i : Nat, i ≤ n ∧ x = .int .i64 i ∧ wr.ownsRow (w.heap.size + 2) 95 2 v (selTo st ri sh R i).length (pcells (selTo st ri sh R i)) ∧ Bk wr w.heap.size 24 #[.int .i64 f, .slice A n c, .slice A2 m c2] ∧ Bk wr (w.heap.size + 1) 35 #[.int .i64 (st : Int), .int .i64 (ri : Int), .int .i64 (sh : Int)] ∧ Below w.heap.size w wr) (fun _ _ _ x _ => n - (intOf x).toNat)
  case atStart => exact ⟨0, Nat.zero_le _, rfl, World.ownsRow_nil _ _ _ _, HBK1.out, HBP1.out, HB1.out⟩
  case round =>
    obtain ⟨i, hi, rfl, hown, hbk, hbp, hb⟩ := hrel
    have HB := Lib.hid hb
    have HOWN := Lib.hid hown
    have HBK := Lib.hid hbk
    have HBP := Lib.hid hbp
    obtain ⟨⟨a0, a1, a2⟩, -⟩ := hbk.three
    obtain ⟨⟨p0, p1, p2⟩, -⟩ := hbp.three
    have ow := hb.size
    have og := hbk.lt
    have op := hbp.lt
    clear hown hbk hbp hb
    by_cases hlt : i < n
    · go_wp2
      go_loopw [7, 9, 41] (fun v _ x wr => ∃ r : Nat, r ≤ R ∧ x = .int .i64 r ∧ wr.ownsRow (w.heap.size + 2) 95 2 v (selTo st ri sh R i ++ rowTo st ri sh i r).length (pcells (selTo st ri sh R i ++ rowTo st ri sh i r)) ∧ Bk wr w.heap.size 24 #[.int .i64 f, .slice A n c, .slice A2 m c2] ∧ Bk wr (w.heap.size + 1) 35 #[.int .i64 (st : Int), .int .i64 (ri : Int), .int .i64 (sh : Int)] ∧ Below w.heap.size w wr) (fun _ _ x _ => R - (intOf x).toNat)
      case atStart => exact ⟨0, Nat.zero_le _, rfl, by simpa [rowTo] using HOWN.out, HBK.out, HBP.out, HB.out⟩
      case round =>
        obtain ⟨r, hr, rfl, hown, hbk, hbp, hb⟩ := hrel
        have HB := Lib.hid hb
        have HOWN := Lib.hid hown
        have HBK := Lib.hid hbk
        have HBP := Lib.hid hbp
        obtain ⟨⟨a0, a1, a2⟩, -⟩ := hbk.three
        obtain ⟨⟨p0, p1, p2⟩, -⟩ := hbp.three
        have ow := hb.size
        have og := hbk.lt
        have op := hbp.lt
        have hMle : (r + 1) * ri ≤ 31 * 30 := Nat.mul_le_mul (by omega) hri2
        have hMge : 1 ≤ (r + 1) * ri := Nat.mul_pos (by omega) (by omega)
        obtain ⟨T, hT⟩ : ∃ T, (r + 1) * ri = T + 1 := ⟨(r + 1) * ri - 1, by omega⟩
        have hw1 : IntKind.i64.wrap ((r : Int) + 1) = (r : Int) + 1 := IntWalk.i64_in _ (by omega)
        have hmul : IntKind.i64.wrap (((r : Int) + 1) * (ri : Int)) = (T : Int) + 1 := by
          have : ((r : Int) + 1) * (ri : Int) = (T : Int) + 1 := by exact_mod_cast hT
          rw [this]; exact IntWalk.i64_in _ (by omega)
        have hw2 : IntKind.i64.wrap ((T : Int) + 1 - 1) = (T : Int) := by rw [IntWalk.i64_in _ (by omega)]; omega
        have hw3 : IntKind.i64.wrap (T : Int) = (T : Int) := IntWalk.i64_in _ (by omega)
        have HT := Lib.hid hT
        have hlen1 := selTo_len st ri sh R i
        have hlen2 := rowTo_len st ri sh i r
        have hlen3 : i * R ≤ 60 * 30 := Nat.mul_le_mul (by omega) hRm
        have hlen : (selTo st ri sh R i ++ rowTo st ri sh i r).length ≤ 1840 := by rw [List.length_append]; omega
        clear hlen1 hlen2 hlen3 hT hMle hMge hown hbk hbp hb
        by_cases hlt2 : r < R
        · have hTm : (r : Int) < (R : Int) := by omega
          have hst0 : ((st : Int) == 0) = false := by simp; omega
          have hst1 : ¬ (st : Int) = 0 := by omega
          obtain ⟨P, hP⟩ : ∃ P, i % st = P := ⟨_, rfl⟩
          obtain ⟨MS, hMS⟩ : ∃ MS, r * sh = MS := ⟨_, rfl⟩
          obtain ⟨Q, hQ⟩ : ∃ Q, MS % st = Q := ⟨_, rfl⟩
          have hMSle : MS ≤ 30 * 30 := by rw [← hMS]; exact Nat.mul_le_mul (by omega) hsh
          have hPlt := Nat.mod_lt i (show st > 0 by omega)
          have hQlt := Nat.mod_lt MS (show st > 0 by omega)
          have hr1 : IntKind.i64.wrap ((i : Int).tmod (st : Int)) = (P : Int) := by rw [← Int.ofNat_tmod, hP]; exact IntWalk.i64_in _ (by omega)
          have hr2 : IntKind.i64.wrap ((MS : Int).tmod (st : Int)) = (Q : Int) := by rw [← Int.ofNat_tmod, hQ]; exact IntWalk.i64_in _ (by omega)
          have hr3 : (i : Int) % (st : Int) = (P : Int) := by rw [← Int.natCast_emod, hP]
          have hr4 : (MS : Int) % (st : Int) = (Q : Int) := by rw [← Int.natCast_emod, hQ]
          have hms : IntKind.i64.wrap ((r : Int) * (sh : Int)) = (MS : Int) := by
            have : (r : Int) * (sh : Int) = (MS : Int) := by exact_mod_cast hMS
            rw [this]; exact IntWalk.i64_in _ (by omega)
          have HPQ : Hid (rowTo st ri sh i (r + 1) = rowTo st ri sh i r ++ (if P = Q then [tieOf i r ri] else [])) := Lib.hid (by simp only [rowTo]; rw [hP, hMS, hQ])
          have HTI : Hid (tieOf i r ri = ((i : Int), (T : Int))) := Lib.hid (by unfold tieOf; rw [HT.out]; simp)
          clear hP hMS hQ hPlt hQlt
          by_cases hPQ : P = Q
          · have hpq1 : ((P : Int) == (Q : Int)) = true := by simp [hPQ]
            have hpq2 : (P == Q) = true := by simp [hPQ]
            have HE := Lib.hid (show rowTo st ri sh i (r + 1) = rowTo st ri sh i r ++ [((i : Int), (T : Int))] by rw [HPQ.out, if_pos hPQ, HTI.out])
            clear hPQ HPQ HTI
            go_wp2
            go_quiet (fail)
            go_wp2_with (at_builtin; refine wpList_append_own_at _ rfl _ _ _ rfl (w.heap.size + 2) 95 i0 _ 2 16 Tryz.underlying36 HI0.out HZ0.out HZ1.out HZ2.out rfl (by omega) _ _ _ rfl (HOWN.out.alloc _) ⟨wr.heap.size, 0, none⟩ 1 1 [.int .i64 (i : Int), .int .i64 (T : Int)] rfl rfl (World.news_of_block (cs := #[.int .i64 (i : Int), .int .i64 (T : Int)]) (t := 95) (fr := (0, 0)) (heap_alloc_new wr _)) (by intro u hu; simp at hu; rcases hu with rfl | rfl <;> rfl) (by unfold maxLen; omega) (by omega) (by simp; omega) ?_; intro v1 w1 hown1 hg1 _ _; have HO1 := Lib.hid hown1; have HG1 := Lib.hid hg1; clear hown1 hg1)
            go_roundw
            case rel =>
              have hb0 := HB.out
              refine ⟨r + 1, by omega, by go_num, ?_, (HG1.out.block _ (by simp; omega) (fun e => by have := (HOWN.out.lt _ e.symm).1; omega)).trans ((HBK.out.drewN _).alloc _), (HG1.out.block _ (by simp; omega) (fun e => by have := (HOWN.out.lt _ e.symm).1; omega)).trans ((HBP.out.drewN _).alloc _), ?_⟩
              · have := HO1.out
                rw [HE.out, ← List.append_assoc, pcells_append]
                simpa [pcells, Nat.add_assoc] using this
              · have hbl : Below w.heap.size w (wr.drewN nq) := (by repeat (first | with_reducible exact Below.refl _ _ | with_reducible assumption | with_reducible refine Below.drew ?_ | with_reducible refine Below.drewN ?_ _ | with_reducible refine Below.alloc2 ?_ _ | with_reducible refine Below.alloc ?_ (by first | omega | (simp <;> omega)) _ | with_reducible refine Below.setCell ?_ (by first | omega | (simp <;> omega)) _ | with_reducible refine Below.step2 (by with_reducible assumption) ?_ | with_reducible refine Below.step (by with_reducible assumption) ?_ (by first | omega | (simp <;> omega))))
                exact (Below.alloc hbl hbl.size _).grown HG1.out (by simp; omega) (fun q hq => by have := (HOWN.out.lt _ hq).1; omega)
            case measure => (simp [intOf]; omega)
          · have hpq1 : ((P : Int) == (Q : Int)) = false := by simp; omega
            have hpq2 : (P == Q) = false := by simpa using hPQ
            have HE := Lib.hid (show rowTo st ri sh i (r + 1) = rowTo st ri sh i r by rw [HPQ.out, if_neg hPQ]; simp)
            clear hPQ HPQ HTI
            go_wp2
            go_quiet (fail)
            go_wp2
            go_roundw
            case rel =>
              have hb0 := HB.out
              exact ⟨r + 1, by omega, by go_num, by rw [HE.out]; exact HOWN.out, HBK.out.drewN _, HBP.out.drewN _, (by repeat (first | with_reducible exact Below.refl _ _ | with_reducible assumption | with_reducible refine Below.drew ?_ | with_reducible refine Below.drewN ?_ _ | with_reducible refine Below.alloc2 ?_ _ | with_reducible refine Below.alloc ?_ (by first | omega | (simp <;> omega)) _ | with_reducible refine Below.setCell ?_ (by first | omega | (simp <;> omega)) _ | with_reducible refine Below.step2 (by with_reducible assumption) ?_ | with_reducible refine Below.step (by with_reducible assumption) ?_ (by first | omega | (simp <;> omega))))⟩
            case measure => (simp [intOf]; omega)
        · have hTm : ¬ (r : Int) < (R : Int) := by omega
          obtain rfl : r = R := by omega
          go_wp2
          go_roundw
          case rel =>
            have hb0 := HB.out
            exact ⟨i + 1, by omega, by go_num, by exact HOWN.out, HBK.out, HBP.out, (by repeat (first | with_reducible exact Below.refl _ _ | with_reducible assumption | with_reducible refine Below.drew ?_ | with_reducible refine Below.drewN ?_ _ | with_reducible refine Below.alloc2 ?_ _ | with_reducible refine Below.alloc ?_ (by first | omega | (simp <;> omega)) _ | with_reducible refine Below.setCell ?_ (by first | omega | (simp <;> omega)) _ | with_reducible refine Below.step2 (by with_reducible assumption) ?_ | with_reducible refine Below.step (by with_reducible assumption) ?_ (by first | omega | (simp <;> omega))))⟩
          case measure => (simp [intOf]; omega)
    · obtain rfl : i = n := by omega
      obtain ⟨A', c', rfl, hs, -⟩ := Sl.of_own HOWN.out
      have HS := Lib.hid hs
      clear hs
      go_wp2
      refine bodyPost_ret (results_tmp2 rfl _ _ _) rfl ?_
      have hb0 := HB.out
      exact ⟨(by repeat (first | with_reducible exact Below.refl _ _ | with_reducible assumption | with_reducible refine Below.drew ?_ | with_reducible refine Below.drewN ?_ _ | with_reducible refine Below.alloc2 ?_ _ | with_reducible refine Below.alloc ?_ (by first | omega | (simp <;> omega)) _ | with_reducible refine Below.setCell ?_ (by first | omega | (simp <;> omega)) _ | with_reducible refine Below.step2 (by with_reducible assumption) ?_ | with_reducible refine Below.step (by with_reducible assumption) ?_ (by first | omega | (simp <;> omega)))), _, _, rfl, ⟨HS.out⟩⟩

end Go.Proofs.YtfnphhmcbdoojaaGreatDoor
