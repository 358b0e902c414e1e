/- Chapter 9, walks: accepted, Correct. -/
import Derived.Test.YtechchkobmffgaaCorrect9
namespace Go.Proofs.Ytechchkobmffgaa
open Go.RowKit Go.WideShapes

theorem Rws.own {α : Type} {f : α → List Value} {size base e n c : Nat} {A : Option Addr} {l : List α} {w : World} (h : w.ownsRow base e size (.slice A n c) n (l.flatMap f)) (hl : l.length = n) : Rws f size w w.heap.size A n c l := by
  obtain ⟨A', c', e, hr⟩ := Rws.of_own h hl
  injection e with e1 e2 e3
  subst e1; subst e3
  exact hr
theorem Rws.big {α : Type} {f : α → List Value} {size n c B B' : Nat} {A : Option Addr} {l : List α} {w : World} (h : Rws f size w B A n c l) (hB : B ≤ B') : Rws f size w B' A n c l := ⟨h.sl.mono hB, h.len, h.nil⟩
theorem own_cells6 {w : World} {base g n cap k : Nat} {l : List Ev} (h : w.ownsRow base 24 6 (.slice (some ⟨g, 0, none⟩) n cap) n (l.flatMap Ev.cs)) (hl : l.length = n) (hk : k < n) :
    ∃ y : Ev, w.cell? ⟨g, k * 6, none⟩ = some (.int .i64 y.d) ∧ w.cell? ⟨g, k * 6 + 1, none⟩ = some (.int .i64 y.k) ∧ w.cell? ⟨g, k * 6 + 2, none⟩ = some (.string y.p) ∧ w.cell? ⟨g, k * 6 + 3, none⟩ = some (.int .i64 y.n) ∧ w.cell? ⟨g, k * 6 + 4, none⟩ = some (.bool y.ps) ∧ w.cell? ⟨g, k * 6 + 5, none⟩ = some (.bool y.gr) := by
  obtain ⟨b, o, y, e, -, -, h0, h1, h2, h3, h4, h5⟩ := (Rws.own h hl).ev hk
  injection e with e
  injection e with e1 e2
  subst e1; subst e2
  simp only [Nat.zero_add] at h0 h1 h2 h3 h4 h5
  exact ⟨y, h0, h1, h2, h3, h4, h5⟩
theorem recErr_small {l : List Ev} (h : recErr l = 0) : l.length ≤ 400 := by
  unfold recErr at h
  split at h
  · cases h
  · omega
set_option maxHeartbeats 2000000 in
theorem accepted_any (A : Option Addr) (n c : Nat) (l : List Ev) (w : World) (h : Rws Ev.cs 6 w w.heap.size A n c l) (hs : n ≤ 400 → ∀ x ∈ l, x.p.size ≤ 30) (ho : ∀ x ∈ l, evOk x) (E : Int) (hE : recErr l = E) :
    Calls Try.prog 51 #[.slice A n c] w fun e w' => Below w.heap.size w w' ∧ e = .returned (.tuple #[if E = 0 then .slice A n c else .slice none 0 0, .int .i64 E]) := by
  have CR : Hid (Calls Try.prog 48 #[.slice A n c] w fun e w' => Below w.heap.size w w' ∧ e = .returned (.int .i64 E)) := Lib.hid (by have := checkRec_all A n c l w h hs ho; rwa [hE] at this)
  clear h hs ho hE
  by_cases h0 : E = 0
  · subst h0
    go_enter Try.func51, Try.ntmps51
    go_wp2_with (go_at_call 48; refine CR.out.mono ?_; rintro e w1 ⟨hb1, rfl⟩; have HB1 := Lib.hid hb1; clear hb1)
    go_ret2
    exact ⟨HB1.out, rfl⟩
  · have h0b : (E != 0) = true := by simpa using h0
    rw [if_neg h0]
    go_enter Try.func51, Try.ntmps51
    go_wp2_with (go_at_call 48; refine CR.out.mono ?_; rintro e w1 ⟨hb1, rfl⟩; have HB1 := Lib.hid hb1; clear hb1)
    go_ret2
    exact ⟨HB1.out, rfl⟩

set_option maxRecDepth 100000 in
set_option maxHeartbeats 8000000 in
theorem correct_bad (A : Option Addr) (n c : Nat) (l : List Ev) (at_ : Int) (xd xk xn : Int) (xp : ByteArray) (xs xg : Bool) (w : World) (h : Rws Ev.cs 6 w w.heap.size A n c l) (hs : n ≤ 400 → ∀ x ∈ l, x.p.size ≤ 30) (ho : ∀ x ∈ l, evOk x) (hE : recErr l ≠ 0) :
    Calls Try.prog 13 #[.slice A n c, .int .i64 at_, .agg #[.int .i64 xd, .int .i64 xk, .string xp, .int .i64 xn, .bool xs, .bool xg]] w fun e w' => Below w.heap.size w w' ∧ e = .returned (.tuple #[.slice none 0 0, .int .i64 (recErr l)]) := by
  obtain ⟨E, hE1⟩ : ∃ E, recErr l = E := ⟨_, rfl⟩
  have CR : Hid (∀ W, Below w.heap.size w W → Calls Try.prog 48 #[.slice A n c] W fun e w' => Below W.heap.size W w' ∧ e = .returned (.int .i64 E)) := Lib.hid fun W hW => by
    have := checkRec_all A n c l W (h.below hW (Nat.le_refl _) hW.size) hs ho
    rwa [hE1] at this
  rw [hE1] at hE ⊢
  have h0b : (E != 0) = true := by simpa using hE
  clear h hs ho hE hE1
  go_enter Try.func13, Try.ntmps13
  go_wp2_with (go_at_call 48; refine (CR.out _ (by exact (by repeat (first | with_reducible exact Below.refl _ _ | with_reducible assumption | with_reducible refine Below.drew ?_ | with_reducible refine Below.drewN ?_ _ | with_reducible refine Below.alloc2 ?_ _ | with_reducible refine Below.alloc ?_ (by first | omega | (simp <;> omega)) _ | with_reducible refine Below.setCell ?_ (by first | omega | (simp <;> omega)) _ | with_reducible refine Below.step2 (by with_reducible assumption) ?_ | with_reducible refine Below.step (by with_reducible assumption) ?_ (by first | omega | (simp <;> omega)))))).mono ?_; rintro e w1 ⟨hb1, rfl⟩; have hk1 : Bk w1 w.heap.size 24 #[.int .i64 xd, .int .i64 xk, .string xp, .int .i64 xn, .bool xs, .bool xg] := (by refine Bk.below (D := _) ?_ hb1 (by simp); exact (by repeat (first | with_reducible assumption | with_reducible exact Bk.at_ (by first | (simp; done) | omega) | with_reducible refine Bk.alloc ?_ _ | with_reducible refine Bk.drew ?_ | with_reducible refine Bk.drewN ?_ _ | with_reducible refine Bk.step (by with_reducible assumption) ?_ (by first | omega | (simp <;> omega))))); have hbw : Below w.heap.size w w1 := ((Below.refl _ w).alloc (Nat.le_refl _) _).trans (hb1.mono (by simp)); have HB1 := Lib.hid hbw; have HK1 := Lib.hid hk1; have ol1 := hk1.lt; obtain ⟨q0, q1, q2, q3, q4, q5⟩ := hk1.sixc; clear hk1 hb1 hbw)
  go_ret2
  exact ⟨HB1.out, rfl⟩
set_option maxRecDepth 100000 in
set_option maxHeartbeats 8000000 in
theorem correct_miss (A : Option Addr) (n c : Nat) (l : List Ev) (at_ : Int) (xd xk xn : Int) (xp : ByteArray) (xs xg : Bool) (w : World) (h : Rws Ev.cs 6 w w.heap.size A n c l) (hs : n ≤ 400 → ∀ x ∈ l, x.p.size ≤ 30) (ho : ∀ x ∈ l, evOk x) (hE : recErr l = 0) (ha : inR 0 ((n : Int) - 1) at_ = false) :
    Calls Try.prog 13 #[.slice A n c, .int .i64 at_, .agg #[.int .i64 xd, .int .i64 xk, .string xp, .int .i64 xn, .bool xs, .bool xg]] w fun e w' => Below w.heap.size w w' ∧ e = .returned (.tuple #[.slice none 0 0, .int .i64 6]) := by
  have hn := recErr_small hE
  rw [h.len] at hn
  have CR : Hid (∀ W, Below w.heap.size w W → Calls Try.prog 48 #[.slice A n c] W fun e w' => Below W.heap.size W w' ∧ e = .returned (.int .i64 0)) := Lib.hid fun W hW => by
    have := checkRec_all A n c l W (h.below hW (Nat.le_refl _) hW.size) hs ho
    rwa [hE] at this
  have BA := Lib.hid ha
  have hw1 : IntKind.i64.wrap ((n : Int) - 1) = (n : Int) - 1 := IntWalk.i64_in _ (by omega)
  clear h hs ho hE ha
  go_enter Try.func13, Try.ntmps13
  go_wp2_with (first | (go_at_call 48; refine (CR.out _ (by exact (by repeat (first | with_reducible exact Below.refl _ _ | with_reducible assumption | with_reducible refine Below.drew ?_ | with_reducible refine Below.drewN ?_ _ | with_reducible refine Below.alloc2 ?_ _ | with_reducible refine Below.alloc ?_ (by first | omega | (simp <;> omega)) _ | with_reducible refine Below.setCell ?_ (by first | omega | (simp <;> omega)) _ | with_reducible refine Below.step2 (by with_reducible assumption) ?_ | with_reducible refine Below.step (by with_reducible assumption) ?_ (by first | omega | (simp <;> omega)))))).mono ?_; rintro e w1 ⟨hb1, rfl⟩; have hk1 : Bk w1 w.heap.size 24 #[.int .i64 xd, .int .i64 xk, .string xp, .int .i64 xn, .bool xs, .bool xg] := (by refine Bk.below (D := _) ?_ hb1 (by simp); exact (by repeat (first | with_reducible assumption | with_reducible exact Bk.at_ (by first | (simp; done) | omega) | with_reducible refine Bk.alloc ?_ _ | with_reducible refine Bk.drew ?_ | with_reducible refine Bk.drewN ?_ _ | with_reducible refine Bk.step (by with_reducible assumption) ?_ (by first | omega | (simp <;> omega))))); have hbw : Below w.heap.size w w1 := ((Below.refl _ w).alloc (Nat.le_refl _) _).trans (hb1.mono (by simp)); have HB1 := Lib.hid hbw; have HK1 := Lib.hid hk1; have ol1 := hk1.lt; obtain ⟨q0, q1, q2, q3, q4, q5⟩ := hk1.sixc; clear hk1 hb1 hbw) | (go_at_call 49; with_reducible refine (areFrom_one 0 ((n : Int) - 1) at_ _ _ ?_ _ BA.out).mono ?_; (focus (first | (simp; done) | (refine (Bk.cell (t := 3) (cs := #[.int .i64 at_]) ?_ 0).trans rfl; exact (by repeat (first | with_reducible assumption | with_reducible exact Bk.at_ (by first | (simp; done) | omega) | with_reducible refine Bk.alloc ?_ _ | with_reducible refine Bk.drew ?_ | with_reducible refine Bk.drewN ?_ _ | with_reducible refine Bk.step (by with_reducible assumption) ?_ (by first | omega | (simp <;> omega))))))); rintro e w9 ⟨rfl, rfl⟩))
  go_ret2
  have hb0 := HB1.out
  exact ⟨(by repeat (first | with_reducible exact Below.refl _ _ | with_reducible assumption | with_reducible refine Below.drew ?_ | with_reducible refine Below.drewN ?_ _ | with_reducible refine Below.alloc2 ?_ _ | with_reducible refine Below.alloc ?_ (by first | omega | (simp <;> omega)) _ | with_reducible refine Below.setCell ?_ (by first | omega | (simp <;> omega)) _ | with_reducible refine Below.step2 (by with_reducible assumption) ?_ | with_reducible refine Below.step (by with_reducible assumption) ?_ (by first | omega | (simp <;> omega)))), rfl⟩
set_option maxRecDepth 100000 in
set_option maxHeartbeats 8000000 in
theorem correct_at (A : Option Addr) (n c k : Nat) (l : List Ev) (xd xk xn : Int) (xp : ByteArray) (xs xg : Bool) (w : World) (h : Rws Ev.cs 6 w w.heap.size A n c l) (hs : ∀ x ∈ l, x.p.size ≤ 30) (ho : ∀ x ∈ l, evOk x) (hE : recErr l = 0) (hk : k < n) (hp : xp.size ≤ 30) (hx : evOk (⟨xd, xk, xp, xn, xs, xg⟩ : Ev)) (E : Int) (hE2 : recErr (l.set k (⟨xd, xk, xp, xn, xs, xg⟩ : Ev)) = E) :
    Calls Try.prog 13 #[.slice A n c, .int .i64 (k : Int), .agg #[.int .i64 xd, .int .i64 xk, .string xp, .int .i64 xn, .bool xs, .bool xg]] w fun e w' => Below w.heap.size w w' ∧ ∃ A' c', e = .returned (.tuple #[if E = 0 then .slice A' n c' else .slice none 0 0, .int .i64 E]) ∧ Rws Ev.cs 6 w' w'.heap.size A' n c' (l.set k (⟨xd, xk, xp, xn, xs, xg⟩ : Ev)) := by
  have hn := recErr_small hE
  have hlen := h.len
  rw [hlen] at hn
  have hcap := h.cap
  have hmax := h.max
  have CR : Hid (∀ W, Below w.heap.size w W → Calls Try.prog 48 #[.slice A n c] W fun e w' => Below W.heap.size W w' ∧ e = .returned (.int .i64 0)) := Lib.hid fun W hW => by
    have := checkRec_all A n c l W (h.below hW (Nat.le_refl _) hW.size) (fun _ => hs) ho
    rwa [hE] at this
  have CL : Hid (∀ W, Below w.heap.size w W → Calls Try.prog 50 #[.slice A n c] W fun e w' => Below W.heap.size W w' ∧ ∃ v, e = .returned v ∧ w'.ownsRow W.heap.size 24 6 v n (l.flatMap Ev.cs)) := Lib.hid fun W hW =>
    clone_any A n c l W (h.below hW (Nat.le_refl _) hW.size) (by omega)
  obtain ⟨V, hV⟩ : ∃ V : Nat → Nat → Value, V = fun g cap => if E = 0 then .slice (some ⟨g, 0, none⟩) n cap else .slice none 0 0 := ⟨_, rfl⟩
  suffices KEY : Calls Try.prog 13 #[.slice A n c, .int .i64 (k : Int), .agg #[.int .i64 xd, .int .i64 xk, .string xp, .int .i64 xn, .bool xs, .bool xg]] w (fun e w' => Below w.heap.size w w' ∧ ∃ g cap, e = .returned (.tuple #[V g cap, .int .i64 E]) ∧ Rws Ev.cs 6 w' w'.heap.size (some ⟨g, 0, none⟩) n cap (l.set k (⟨xd, xk, xp, xn, xs, xg⟩ : Ev))) by
    refine KEY.mono ?_
    rintro e w1 ⟨hb, g, cap, rfl, hr⟩
    exact ⟨hb, _, _, by rw [hV], hr⟩
  have AC : Hid (∀ g cap base W, W.ownsRow base 24 6 (.slice (some ⟨g, 0, none⟩) n cap) n ((l.set k (⟨xd, xk, xp, xn, xs, xg⟩ : Ev)).flatMap Ev.cs) → Calls Try.prog 51 #[.slice (some ⟨g, 0, none⟩) n cap] W fun e w' => Below W.heap.size W w' ∧ e = .returned (.tuple #[V g cap, .int .i64 E])) := Lib.hid fun g cap base W hW => by
    rw [hV]
    exact accepted_any _ n _ _ W (Rws.own hW (by rw [List.length_set]; exact hlen)) (fun _ y hy => by
      rcases List.mem_or_eq_of_mem_set hy with h1 | h1
      · exact hs y h1
      · rw [h1]; exact hp) (fun y hy => by
      rcases List.mem_or_eq_of_mem_set hy with h1 | h1
      · exact ho y h1
      · rw [h1]; exact hx) E hE2
  have at_eq : Hid ((k : Int) = (k : Int)) := Lib.hid rfl
  have BA : Hid (inR 0 ((n : Int) - 1) (k : Int) = true) := Lib.hid (inR_iff.2 ⟨by omega, by omega⟩)
  have hw1 : IntKind.i64.wrap ((n : Int) - 1) = (n : Int) - 1 := IntWalk.i64_in _ (by omega)
  have z1 : (0 : Int) ≤ (k : Int) := by omega
  have z2 : (k : Int) < (n : Int) := by omega
  have HLEN := Lib.hid hlen
  clear h hs ho hE hlen hE2 hx hp hV
  go_enter Try.func13, Try.ntmps13
  go_wp2_with (first
    | (go_at_call 48; refine (CR.out _ (by exact (by repeat (first | with_reducible exact Below.refl _ _ | with_reducible assumption | with_reducible refine Below.drew ?_ | with_reducible refine Below.drewN ?_ _ | with_reducible refine Below.alloc2 ?_ _ | with_reducible refine Below.alloc ?_ (by first | omega | (simp <;> omega)) _ | with_reducible refine Below.setCell ?_ (by first | omega | (simp <;> omega)) _ | with_reducible refine Below.step2 (by with_reducible assumption) ?_ | with_reducible refine Below.step (by with_reducible assumption) ?_ (by first | omega | (simp <;> omega)))))).mono ?_; rintro e w1 ⟨hb1, rfl⟩; have hk1 : Bk w1 w.heap.size 24 #[.int .i64 xd, .int .i64 xk, .string xp, .int .i64 xn, .bool xs, .bool xg] := (by refine Bk.below (D := _) ?_ hb1 (by simp); exact (by repeat (first | with_reducible assumption | with_reducible exact Bk.at_ (by first | (simp; done) | omega) | with_reducible refine Bk.alloc ?_ _ | with_reducible refine Bk.drew ?_ | with_reducible refine Bk.drewN ?_ _ | with_reducible refine Bk.step (by with_reducible assumption) ?_ (by first | omega | (simp <;> omega))))); have hbw : Below w.heap.size w w1 := ((Below.refl _ w).alloc (Nat.le_refl _) _).trans (hb1.mono (by simp)); have HB1 := Lib.hid hbw; have HK1 := Lib.hid hk1; have ol1 := hk1.lt; obtain ⟨q0, q1, q2, q3, q4, q5⟩ := hk1.sixc; clear hk1 hb1 hbw)
    | (go_at_call 49; with_reducible refine (areFrom_one 0 ((n : Int) - 1) (k : Int) _ _ ?_ _ BA.out).mono ?_; (focus (first | (simp; done) | (refine (Bk.cell (t := 3) (cs := #[.int .i64 (k : Int)]) ?_ 0).trans rfl; exact (by repeat (first | with_reducible assumption | with_reducible exact Bk.at_ (by first | (simp; done) | omega) | with_reducible refine Bk.alloc ?_ _ | with_reducible refine Bk.drew ?_ | with_reducible refine Bk.drewN ?_ _ | with_reducible refine Bk.step (by with_reducible assumption) ?_ (by first | omega | (simp <;> omega))))))); rintro e w9 ⟨rfl, rfl⟩)
    | (go_at_call 50; refine (CL.out _ (by have hb0 := HB1.out; exact (by repeat (first | with_reducible exact Below.refl _ _ | with_reducible assumption | with_reducible refine Below.drew ?_ | with_reducible refine Below.drewN ?_ _ | with_reducible refine Below.alloc2 ?_ _ | with_reducible refine Below.alloc ?_ (by first | omega | (simp <;> omega)) _ | with_reducible refine Below.setCell ?_ (by first | omega | (simp <;> omega)) _ | with_reducible refine Below.step2 (by with_reducible assumption) ?_ | with_reducible refine Below.step (by with_reducible assumption) ?_ (by first | omega | (simp <;> omega)))))).mono ?_; rintro e w2 ⟨hb2, v, rfl, hown⟩; have hk2 : Bk w2 w.heap.size 24 #[.int .i64 xd, .int .i64 xk, .string xp, .int .i64 xn, .bool xs, .bool xg] := (by have hk1 := HK1.out; refine Bk.below (D := _) ?_ hb2 (by simp; omega); exact (by repeat (first | with_reducible assumption | with_reducible exact Bk.at_ (by first | (simp; done) | omega) | with_reducible refine Bk.alloc ?_ _ | with_reducible refine Bk.drew ?_ | with_reducible refine Bk.drewN ?_ _ | with_reducible refine Bk.step (by with_reducible assumption) ?_ (by first | omega | (simp <;> omega))))); have hbw : Below w.heap.size w w2 := (by have hb0 := HB1.out; refine Below.trans ?_ (hb2.mono ?_); (exact (by repeat (first | with_reducible exact Below.refl _ _ | with_reducible assumption | with_reducible refine Below.drew ?_ | with_reducible refine Below.drewN ?_ _ | with_reducible refine Below.alloc2 ?_ _ | with_reducible refine Below.alloc ?_ (by first | omega | (simp <;> omega)) _ | with_reducible refine Below.setCell ?_ (by first | omega | (simp <;> omega)) _ | with_reducible refine Below.step2 (by with_reducible assumption) ?_ | with_reducible refine Below.step (by with_reducible assumption) ?_ (by first | omega | (simp <;> omega))))); (simp; omega)); obtain ⟨g, cap, cur, rfl, hg, hbk⟩ : ∃ g cap cur, v = .slice (some ⟨g, 0, none⟩) n cap ∧ w.heap.size + 1 ≤ g ∧ Bk w2 g 24 cur ∧ n ≤ cap := (by rcases hown.2 with ⟨-, e⟩ | ⟨g, cap, cur, e, hg, hh, hnc, -⟩; (omega); (exact ⟨g, cap, cur, e, by simp at hg; omega, hh, hnc⟩)); obtain ⟨hbk, hcap2⟩ := hbk; have f0 := hbk.frozen (k * 6); have f1 := hbk.frozen (k * 6 + 1); have f2 := hbk.frozen (k * 6 + 2); have f3 := hbk.frozen (k * 6 + 3); have f4 := hbk.frozen (k * 6 + 4); have f5 := hbk.frozen (k * 6 + 5); have lg := hbk.lt; obtain ⟨y0, s0, s1, s2, s3, s4, s5⟩ := own_cells6 hown HLEN.out hk; obtain ⟨r0, r1, r2, r3, r4, r5⟩ := hk2.sixc; have HB2 := Lib.hid hbw; have HOW := Lib.hid hown; clear hk2 hb2 hbw hown hbk)
    | (go_at_call 51; refine (AC.out g cap _ _ (own_put6 HOW.out HLEN.out hk (⟨xd, xk, xp, xn, xs, xg⟩ : Ev))).mono ?_; rintro e w3 ⟨hb3, rfl⟩; have HB3 := Lib.hid hb3; clear hb3))
  go_ret2
  have hbx := own_put6_below (k := k) HB2.out (show w.heap.size ≤ g by omega) (⟨xd, xk, xp, xn, xs, xg⟩ : Ev)
  have hrow := Rws.own (own_put6 HOW.out HLEN.out hk (⟨xd, xk, xp, xn, xs, xg⟩ : Ev)) (by rw [List.length_set]; exact HLEN.out)
  exact ⟨hbx.trans (HB3.out.mono hbx.size), _, _, rfl, hrow.below HB3.out (Nat.le_refl _) HB3.out.size⟩

end Go.Proofs.Ytechchkobmffgaa
