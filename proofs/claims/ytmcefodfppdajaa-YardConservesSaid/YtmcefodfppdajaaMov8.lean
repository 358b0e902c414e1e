/- Chapter 8, walks: isPermitted, CheckMovement of the program. -/
import Derived.Test.YtmcefodfppdajaaPermB8
namespace Go.Proofs.Ytmcefodfppdajaa
open Go.RowKit Go.Deep

/-- A movement: part, from, to, before, after, count. -/
structure Mo where
  p : ByteArray
  f : Int
  t : Int
  b : Int
  a : Int
  n : Int
def Mo.cs (x : Mo) : List Value := [.string x.p, .int .i64 x.f, .int .i64 x.t, .int .i64 x.b, .int .i64 x.a, .int .i64 x.n]
theorem Mo.wide (x : Mo) : x.cs.length = 6 := rfl
abbrev Mo.v (x : Mo) : Value := .agg #[.string x.p, .int .i64 x.f, .int .i64 x.t, .int .i64 x.b, .int .i64 x.a, .int .i64 x.n]
def permB (v1 v2 v3 v4 v5 v6 v7 ch : Bool) : Bool := if v1 then v2 && v7 else if v3 then ch else if v4 then false else v5 || (v2 || v6)
def perm (x : Mo) : Bool := permB (x.f == -1) (x.t == 0) (x.f == x.t) (x.b != x.a) (x.t == -1) (x.b == 0) (eq2 x.b x.a 0 0) (chg x.b x.a x.f)
theorem Bk.sixc {w : World} {g t : Nat} {a b c d e f : Value} (h : Bk w g t #[a, b, c, d, e, f]) : w.cell? ⟨g, 0, none⟩ = some a ∧ w.cell? ⟨g, 1, none⟩ = some b ∧ w.cell? ⟨g, 2, none⟩ = some c ∧ w.cell? ⟨g, 3, none⟩ = some d ∧ w.cell? ⟨g, 4, none⟩ = some e ∧ w.cell? ⟨g, 5, none⟩ = some f :=
  ⟨h.cell 0, h.cell 1, h.cell 2, h.cell 3, h.cell 4, h.cell 5⟩
set_option maxRecDepth 100000 in
set_option maxHeartbeats 4000000 in
theorem isPermitted_any (x : Mo) (w : World) : Calls Try.prog 62 #[.agg #[.string x.p, .int .i64 x.f, .int .i64 x.t, .int .i64 x.b, .int .i64 x.a, .int .i64 x.n]] w fun e w' => Below w.heap.size w w' ∧ e = .returned (.bool (perm x)) := by
  obtain ⟨p, f, t, b, a, n⟩ := x
  dsimp only
  obtain ⟨v1, h1⟩ : ∃ v, (f == -1) = v := ⟨_, rfl⟩
  obtain ⟨v2, h2⟩ : ∃ v, (t == 0) = v := ⟨_, rfl⟩
  obtain ⟨v3, h3⟩ : ∃ v, (f == t) = v := ⟨_, rfl⟩
  obtain ⟨v4, h4⟩ : ∃ v, (b != a) = v := ⟨_, rfl⟩
  obtain ⟨v5, h5⟩ : ∃ v, (t == -1) = v := ⟨_, rfl⟩
  obtain ⟨v6, h6⟩ : ∃ v, (b == 0) = v := ⟨_, rfl⟩
  obtain ⟨v7, h7⟩ : ∃ v, eq2 b a 0 0 = v := ⟨_, rfl⟩
  obtain ⟨ch, h8⟩ : ∃ v, chg b a f = v := ⟨_, rfl⟩
  have HE : Hid (perm ⟨p, f, t, b, a, n⟩ = permB v1 v2 v3 v4 v5 v6 v7 ch) := Lib.hid (by simp only [perm, h1, h2, h3, h4, h5, h6, h7, h8])
  have q7 := fun W => eq_arr2 b a 0 0 W
  simp only [h7] at q7
  have CH : Hid (∀ W, Calls Try.prog 88 #[.agg #[.int .i64 b, .int .i64 a], .int .i64 f] W fun e w' => Below W.heap.size W w' ∧ e = .returned (.bool ch)) := Lib.hid fun W => by rw [← h8]; exact isChange_any b a f W
  clear h7 h8
  cases v1
  rotate_left
  · cases v2
    · go_enter Try.func62, Try.ntmps62
      go_wp2
      go_ret
      exact ⟨(by repeat (first | with_reducible exact Below.refl _ _ | with_reducible assumption | with_reducible refine Below.drew ?_ | with_reducible refine Below.drewN ?_ _ | with_reducible refine Below.alloc2 ?_ _ | with_reducible refine Below.alloc ?_ (by first | omega | (simp <;> omega)) _ | with_reducible refine Below.setCell ?_ (by first | omega | (simp <;> omega)) _ | with_reducible refine Below.step2 (by with_reducible assumption) ?_ | with_reducible refine Below.step (by with_reducible assumption) ?_ (by first | omega | (simp <;> omega)))), ret_bool HE.out.symm⟩
    · go_enter Try.func62, Try.ntmps62
      go_wp2
      go_ret
      exact ⟨(by repeat (first | with_reducible exact Below.refl _ _ | with_reducible assumption | with_reducible refine Below.drew ?_ | with_reducible refine Below.drewN ?_ _ | with_reducible refine Below.alloc2 ?_ _ | with_reducible refine Below.alloc ?_ (by first | omega | (simp <;> omega)) _ | with_reducible refine Below.setCell ?_ (by first | omega | (simp <;> omega)) _ | with_reducible refine Below.step2 (by with_reducible assumption) ?_ | with_reducible refine Below.step (by with_reducible assumption) ?_ (by first | omega | (simp <;> omega)))), ret_bool HE.out.symm⟩
  cases v3
  rotate_left
  · go_enter Try.func62, Try.ntmps62
    go_wp2_with (go_at_call 88; with_reducible refine (CH.out _).mono ?_; rintro e w1 ⟨hb1, rfl⟩; have HB1 := Lib.hid hb1; clear hb1)
    go_ret
    exact ⟨Below.trans (a := w) (by exact (by repeat (first | with_reducible exact Below.refl _ _ | with_reducible assumption | with_reducible refine Below.drew ?_ | with_reducible refine Below.drewN ?_ _ | with_reducible refine Below.alloc2 ?_ _ | with_reducible refine Below.alloc ?_ (by first | omega | (simp <;> omega)) _ | with_reducible refine Below.setCell ?_ (by first | omega | (simp <;> omega)) _ | with_reducible refine Below.step2 (by with_reducible assumption) ?_ | with_reducible refine Below.step (by with_reducible assumption) ?_ (by first | omega | (simp <;> omega))))) (HB1.out.mono (by simp; omega)), ret_bool HE.out.symm⟩
  cases v4
  rotate_left
  · go_enter Try.func62, Try.ntmps62
    go_wp2
    go_ret
    exact ⟨(by repeat (first | with_reducible exact Below.refl _ _ | with_reducible assumption | with_reducible refine Below.drew ?_ | with_reducible refine Below.drewN ?_ _ | with_reducible refine Below.alloc2 ?_ _ | with_reducible refine Below.alloc ?_ (by first | omega | (simp <;> omega)) _ | with_reducible refine Below.setCell ?_ (by first | omega | (simp <;> omega)) _ | with_reducible refine Below.step2 (by with_reducible assumption) ?_ | with_reducible refine Below.step (by with_reducible assumption) ?_ (by first | omega | (simp <;> omega)))), ret_bool HE.out.symm⟩
  cases v5
  rotate_left
  · go_enter Try.func62, Try.ntmps62
    go_wp2
    go_ret
    exact ⟨(by repeat (first | with_reducible exact Below.refl _ _ | with_reducible assumption | with_reducible refine Below.drew ?_ | with_reducible refine Below.drewN ?_ _ | with_reducible refine Below.alloc2 ?_ _ | with_reducible refine Below.alloc ?_ (by first | omega | (simp <;> omega)) _ | with_reducible refine Below.setCell ?_ (by first | omega | (simp <;> omega)) _ | with_reducible refine Below.step2 (by with_reducible assumption) ?_ | with_reducible refine Below.step (by with_reducible assumption) ?_ (by first | omega | (simp <;> omega)))), ret_bool HE.out.symm⟩
  cases v2
  rotate_left
  · go_enter Try.func62, Try.ntmps62
    go_wp2
    go_ret
    exact ⟨(by repeat (first | with_reducible exact Below.refl _ _ | with_reducible assumption | with_reducible refine Below.drew ?_ | with_reducible refine Below.drewN ?_ _ | with_reducible refine Below.alloc2 ?_ _ | with_reducible refine Below.alloc ?_ (by first | omega | (simp <;> omega)) _ | with_reducible refine Below.setCell ?_ (by first | omega | (simp <;> omega)) _ | with_reducible refine Below.step2 (by with_reducible assumption) ?_ | with_reducible refine Below.step (by with_reducible assumption) ?_ (by first | omega | (simp <;> omega)))), ret_bool HE.out.symm⟩
  · go_enter Try.func62, Try.ntmps62
    go_wp2
    go_ret
    exact ⟨(by repeat (first | with_reducible exact Below.refl _ _ | with_reducible assumption | with_reducible refine Below.drew ?_ | with_reducible refine Below.drewN ?_ _ | with_reducible refine Below.alloc2 ?_ _ | with_reducible refine Below.alloc ?_ (by first | omega | (simp <;> omega)) _ | with_reducible refine Below.setCell ?_ (by first | omega | (simp <;> omega)) _ | with_reducible refine Below.step2 (by with_reducible assumption) ?_ | with_reducible refine Below.step (by with_reducible assumption) ?_ (by first | omega | (simp <;> omega)))), ret_bool HE.out.symm⟩

set_option maxRecDepth 100000 in
set_option maxHeartbeats 8000000 in
theorem refPermitted_any (x : Mo) (w : World) : Calls Try.prog 26 #[.agg #[.string x.p, .int .i64 x.f, .int .i64 x.t, .int .i64 x.b, .int .i64 x.a, .int .i64 x.n]] w fun e w' => Below w.heap.size w w' ∧ e = .returned (.bool (perm x)) := by
  obtain ⟨p, f, t, b, a, n⟩ := x
  dsimp only
  obtain ⟨v1, h1⟩ : ∃ v, (f == -1) = v := ⟨_, rfl⟩
  obtain ⟨v2, h2⟩ : ∃ v, (t == 0) = v := ⟨_, rfl⟩
  obtain ⟨v3, h3⟩ : ∃ v, (f != t) = v := ⟨_, rfl⟩
  obtain ⟨v4, h4⟩ : ∃ v, (a == b) = v := ⟨_, rfl⟩
  obtain ⟨v5, h5⟩ : ∃ v, (t == -1) = v := ⟨_, rfl⟩
  obtain ⟨v6, h6⟩ : ∃ v, (b == 0) = v := ⟨_, rfl⟩
  obtain ⟨v8, h8⟩ : ∃ v, (a == 0) = v := ⟨_, rfl⟩
  obtain ⟨v9, h9⟩ : ∃ v, (f == 0) = v := ⟨_, rfl⟩
  obtain ⟨e1, g1⟩ : ∃ v, eq2 b a 0 1 = v := ⟨_, rfl⟩
  have q1 := fun W => eq_arr2 b a 0 1 W
  simp only [g1] at q1
  obtain ⟨e2, g2⟩ : ∃ v, eq2 b a 0 3 = v := ⟨_, rfl⟩
  have q2 := fun W => eq_arr2 b a 0 3 W
  simp only [g2] at q2
  obtain ⟨e3, g3⟩ : ∃ v, eq2 b a 1 3 = v := ⟨_, rfl⟩
  have q3 := fun W => eq_arr2 b a 1 3 W
  simp only [g3] at q3
  obtain ⟨e4, g4⟩ : ∃ v, eq2 b a 1 2 = v := ⟨_, rfl⟩
  have q4 := fun W => eq_arr2 b a 1 2 W
  simp only [g4] at q4
  obtain ⟨e5, g5⟩ : ∃ v, eq2 b a 2 0 = v := ⟨_, rfl⟩
  have q5 := fun W => eq_arr2 b a 2 0 W
  simp only [g5] at q5
  obtain ⟨e6, g6⟩ : ∃ v, eq2 b a 2 1 = v := ⟨_, rfl⟩
  have q6 := fun W => eq_arr2 b a 2 1 W
  simp only [g6] at q6
  obtain ⟨e7, g7⟩ : ∃ v, eq2 b a 3 0 = v := ⟨_, rfl⟩
  have q7 := fun W => eq_arr2 b a 3 0 W
  simp only [g7] at q7
  obtain ⟨e8, g8⟩ : ∃ v, eq2 b a 3 1 = v := ⟨_, rfl⟩
  have q8 := fun W => eq_arr2 b a 3 1 W
  simp only [g8] at q8
  have HE : Hid (perm ⟨p, f, t, b, a, n⟩ = if v1 then v2 && (v6 && v8) else if v5 then v4 else if v3 then v4 && (v2 || v6) else e1 || (e2 || e3) || (v9 && (e4 || (e5 || (e6 || (e7 || e8)))))) := Lib.hid (by
    have k1 : (f == t) = !v3 := by rw [← h3]; simp [bne]
    have k2 : (b != a) = !v4 := by rw [← h4, bne, BEq.comm]
    have k3 : eq2 b a 0 0 = (v6 && v8) := by rw [← h6, ← h8]; unfold eq2; rw [Bool.eq_iff_iff]; simp
    have k4 : chg b a f = (e1 || (e2 || e3) || (v9 && (e4 || (e5 || (e6 || (e7 || e8)))))) := by
      have k5 : decide (f = 0) = v9 := by rw [← h9]; rfl
      unfold chg has2 chgA chgB
      rw [k5]
      simp only [List.any_cons, List.any_nil, Bool.or_false, g1, g2, g3, g4, g5, g6, g7, g8]
    simp only [perm, h1, h2, k1, k2, h5, h6, k3, k4, permB]
    by_cases h51 : v5 = true
    · by_cases hv1 : v1 = true
      · simp [hv1]
      · have ht : t = -1 := by rw [h51] at h5; simpa using h5
        have hf : f ≠ -1 := fun e => hv1 (by rw [← h1, e]; rfl)
        have : v3 = true := by rw [← h3, ht]; simpa using hf
        simp [hv1, h51, this]
    · cases v1 <;> cases v3 <;> cases v4 <;> simp [h51])
  clear g1 g2 g3 g4 g5 g6 g7 g8
  cases v1
  rotate_left
  · cases v2
    · go_enter Try.func26, Try.ntmps26
      go_wp2
      go_ret
      exact ⟨(by repeat (first | with_reducible exact Below.refl _ _ | with_reducible assumption | with_reducible refine Below.drew ?_ | with_reducible refine Below.drewN ?_ _ | with_reducible refine Below.alloc2 ?_ _ | with_reducible refine Below.alloc ?_ (by first | omega | (simp <;> omega)) _ | with_reducible refine Below.setCell ?_ (by first | omega | (simp <;> omega)) _ | with_reducible refine Below.step2 (by with_reducible assumption) ?_ | with_reducible refine Below.step (by with_reducible assumption) ?_ (by first | omega | (simp <;> omega)))), ret_bool HE.out.symm⟩
    · cases v6
      · go_enter Try.func26, Try.ntmps26
        go_wp2
        go_ret
        exact ⟨(by repeat (first | with_reducible exact Below.refl _ _ | with_reducible assumption | with_reducible refine Below.drew ?_ | with_reducible refine Below.drewN ?_ _ | with_reducible refine Below.alloc2 ?_ _ | with_reducible refine Below.alloc ?_ (by first | omega | (simp <;> omega)) _ | with_reducible refine Below.setCell ?_ (by first | omega | (simp <;> omega)) _ | with_reducible refine Below.step2 (by with_reducible assumption) ?_ | with_reducible refine Below.step (by with_reducible assumption) ?_ (by first | omega | (simp <;> omega)))), ret_bool HE.out.symm⟩
      · go_enter Try.func26, Try.ntmps26
        go_wp2
        go_ret
        exact ⟨(by repeat (first | with_reducible exact Below.refl _ _ | with_reducible assumption | with_reducible refine Below.drew ?_ | with_reducible refine Below.drewN ?_ _ | with_reducible refine Below.alloc2 ?_ _ | with_reducible refine Below.alloc ?_ (by first | omega | (simp <;> omega)) _ | with_reducible refine Below.setCell ?_ (by first | omega | (simp <;> omega)) _ | with_reducible refine Below.step2 (by with_reducible assumption) ?_ | with_reducible refine Below.step (by with_reducible assumption) ?_ (by first | omega | (simp <;> omega)))), ret_bool HE.out.symm⟩
  cases v5
  rotate_left
  · go_enter Try.func26, Try.ntmps26
    go_wp2
    go_ret
    exact ⟨(by repeat (first | with_reducible exact Below.refl _ _ | with_reducible assumption | with_reducible refine Below.drew ?_ | with_reducible refine Below.drewN ?_ _ | with_reducible refine Below.alloc2 ?_ _ | with_reducible refine Below.alloc ?_ (by first | omega | (simp <;> omega)) _ | with_reducible refine Below.setCell ?_ (by first | omega | (simp <;> omega)) _ | with_reducible refine Below.step2 (by with_reducible assumption) ?_ | with_reducible refine Below.step (by with_reducible assumption) ?_ (by first | omega | (simp <;> omega)))), ret_bool HE.out.symm⟩
  cases v3
  rotate_left
  · cases v4
    · go_enter Try.func26, Try.ntmps26
      go_wp2
      go_ret
      exact ⟨(by repeat (first | with_reducible exact Below.refl _ _ | with_reducible assumption | with_reducible refine Below.drew ?_ | with_reducible refine Below.drewN ?_ _ | with_reducible refine Below.alloc2 ?_ _ | with_reducible refine Below.alloc ?_ (by first | omega | (simp <;> omega)) _ | with_reducible refine Below.setCell ?_ (by first | omega | (simp <;> omega)) _ | with_reducible refine Below.step2 (by with_reducible assumption) ?_ | with_reducible refine Below.step (by with_reducible assumption) ?_ (by first | omega | (simp <;> omega)))), ret_bool HE.out.symm⟩
    · cases v2
      · go_enter Try.func26, Try.ntmps26
        go_wp2
        go_ret
        exact ⟨(by repeat (first | with_reducible exact Below.refl _ _ | with_reducible assumption | with_reducible refine Below.drew ?_ | with_reducible refine Below.drewN ?_ _ | with_reducible refine Below.alloc2 ?_ _ | with_reducible refine Below.alloc ?_ (by first | omega | (simp <;> omega)) _ | with_reducible refine Below.setCell ?_ (by first | omega | (simp <;> omega)) _ | with_reducible refine Below.step2 (by with_reducible assumption) ?_ | with_reducible refine Below.step (by with_reducible assumption) ?_ (by first | omega | (simp <;> omega)))), ret_bool HE.out.symm⟩
      · go_enter Try.func26, Try.ntmps26
        go_wp2
        go_ret
        exact ⟨(by repeat (first | with_reducible exact Below.refl _ _ | with_reducible assumption | with_reducible refine Below.drew ?_ | with_reducible refine Below.drewN ?_ _ | with_reducible refine Below.alloc2 ?_ _ | with_reducible refine Below.alloc ?_ (by first | omega | (simp <;> omega)) _ | with_reducible refine Below.setCell ?_ (by first | omega | (simp <;> omega)) _ | with_reducible refine Below.step2 (by with_reducible assumption) ?_ | with_reducible refine Below.step (by with_reducible assumption) ?_ (by first | omega | (simp <;> omega)))), ret_bool HE.out.symm⟩
  cases e1
  rotate_left
  · go_enter Try.func26, Try.ntmps26
    go_wp2
    go_ret
    exact ⟨(by repeat (first | with_reducible exact Below.refl _ _ | with_reducible assumption | with_reducible refine Below.drew ?_ | with_reducible refine Below.drewN ?_ _ | with_reducible refine Below.alloc2 ?_ _ | with_reducible refine Below.alloc ?_ (by first | omega | (simp <;> omega)) _ | with_reducible refine Below.setCell ?_ (by first | omega | (simp <;> omega)) _ | with_reducible refine Below.step2 (by with_reducible assumption) ?_ | with_reducible refine Below.step (by with_reducible assumption) ?_ (by first | omega | (simp <;> omega)))), ret_bool HE.out.symm⟩
  cases e2
  rotate_left
  · go_enter Try.func26, Try.ntmps26
    go_wp2
    go_ret
    exact ⟨(by repeat (first | with_reducible exact Below.refl _ _ | with_reducible assumption | with_reducible refine Below.drew ?_ | with_reducible refine Below.drewN ?_ _ | with_reducible refine Below.alloc2 ?_ _ | with_reducible refine Below.alloc ?_ (by first | omega | (simp <;> omega)) _ | with_reducible refine Below.setCell ?_ (by first | omega | (simp <;> omega)) _ | with_reducible refine Below.step2 (by with_reducible assumption) ?_ | with_reducible refine Below.step (by with_reducible assumption) ?_ (by first | omega | (simp <;> omega)))), ret_bool HE.out.symm⟩
  cases e3
  rotate_left
  · go_enter Try.func26, Try.ntmps26
    go_wp2
    go_ret
    exact ⟨(by repeat (first | with_reducible exact Below.refl _ _ | with_reducible assumption | with_reducible refine Below.drew ?_ | with_reducible refine Below.drewN ?_ _ | with_reducible refine Below.alloc2 ?_ _ | with_reducible refine Below.alloc ?_ (by first | omega | (simp <;> omega)) _ | with_reducible refine Below.setCell ?_ (by first | omega | (simp <;> omega)) _ | with_reducible refine Below.step2 (by with_reducible assumption) ?_ | with_reducible refine Below.step (by with_reducible assumption) ?_ (by first | omega | (simp <;> omega)))), ret_bool HE.out.symm⟩
  cases v9
  · go_enter Try.func26, Try.ntmps26
    go_wp2
    go_ret
    exact ⟨(by repeat (first | with_reducible exact Below.refl _ _ | with_reducible assumption | with_reducible refine Below.drew ?_ | with_reducible refine Below.drewN ?_ _ | with_reducible refine Below.alloc2 ?_ _ | with_reducible refine Below.alloc ?_ (by first | omega | (simp <;> omega)) _ | with_reducible refine Below.setCell ?_ (by first | omega | (simp <;> omega)) _ | with_reducible refine Below.step2 (by with_reducible assumption) ?_ | with_reducible refine Below.step (by with_reducible assumption) ?_ (by first | omega | (simp <;> omega)))), ret_bool HE.out.symm⟩
  cases e4
  rotate_left
  · go_enter Try.func26, Try.ntmps26
    go_wp2
    go_ret
    exact ⟨(by repeat (first | with_reducible exact Below.refl _ _ | with_reducible assumption | with_reducible refine Below.drew ?_ | with_reducible refine Below.drewN ?_ _ | with_reducible refine Below.alloc2 ?_ _ | with_reducible refine Below.alloc ?_ (by first | omega | (simp <;> omega)) _ | with_reducible refine Below.setCell ?_ (by first | omega | (simp <;> omega)) _ | with_reducible refine Below.step2 (by with_reducible assumption) ?_ | with_reducible refine Below.step (by with_reducible assumption) ?_ (by first | omega | (simp <;> omega)))), ret_bool HE.out.symm⟩
  cases e5
  rotate_left
  · go_enter Try.func26, Try.ntmps26
    go_wp2
    go_ret
    exact ⟨(by repeat (first | with_reducible exact Below.refl _ _ | with_reducible assumption | with_reducible refine Below.drew ?_ | with_reducible refine Below.drewN ?_ _ | with_reducible refine Below.alloc2 ?_ _ | with_reducible refine Below.alloc ?_ (by first | omega | (simp <;> omega)) _ | with_reducible refine Below.setCell ?_ (by first | omega | (simp <;> omega)) _ | with_reducible refine Below.step2 (by with_reducible assumption) ?_ | with_reducible refine Below.step (by with_reducible assumption) ?_ (by first | omega | (simp <;> omega)))), ret_bool HE.out.symm⟩
  cases e6
  rotate_left
  · go_enter Try.func26, Try.ntmps26
    go_wp2
    go_ret
    exact ⟨(by repeat (first | with_reducible exact Below.refl _ _ | with_reducible assumption | with_reducible refine Below.drew ?_ | with_reducible refine Below.drewN ?_ _ | with_reducible refine Below.alloc2 ?_ _ | with_reducible refine Below.alloc ?_ (by first | omega | (simp <;> omega)) _ | with_reducible refine Below.setCell ?_ (by first | omega | (simp <;> omega)) _ | with_reducible refine Below.step2 (by with_reducible assumption) ?_ | with_reducible refine Below.step (by with_reducible assumption) ?_ (by first | omega | (simp <;> omega)))), ret_bool HE.out.symm⟩
  cases e7
  rotate_left
  · go_enter Try.func26, Try.ntmps26
    go_wp2
    go_ret
    exact ⟨(by repeat (first | with_reducible exact Below.refl _ _ | with_reducible assumption | with_reducible refine Below.drew ?_ | with_reducible refine Below.drewN ?_ _ | with_reducible refine Below.alloc2 ?_ _ | with_reducible refine Below.alloc ?_ (by first | omega | (simp <;> omega)) _ | with_reducible refine Below.setCell ?_ (by first | omega | (simp <;> omega)) _ | with_reducible refine Below.step2 (by with_reducible assumption) ?_ | with_reducible refine Below.step (by with_reducible assumption) ?_ (by first | omega | (simp <;> omega)))), ret_bool HE.out.symm⟩
  · go_enter Try.func26, Try.ntmps26
    go_wp2
    go_ret
    exact ⟨(by repeat (first | with_reducible exact Below.refl _ _ | with_reducible assumption | with_reducible refine Below.drew ?_ | with_reducible refine Below.drewN ?_ _ | with_reducible refine Below.alloc2 ?_ _ | with_reducible refine Below.alloc ?_ (by first | omega | (simp <;> omega)) _ | with_reducible refine Below.setCell ?_ (by first | omega | (simp <;> omega)) _ | with_reducible refine Below.step2 (by with_reducible assumption) ?_ | with_reducible refine Below.step (by with_reducible assumption) ?_ (by first | omega | (simp <;> omega)))), ret_bool HE.out.symm⟩

end Go.Proofs.Ytmcefodfppdajaa
