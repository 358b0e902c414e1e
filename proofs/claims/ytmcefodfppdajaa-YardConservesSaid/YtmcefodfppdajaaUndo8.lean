/- Chapter 8, walks: Undo, the reference's Opposite, Move of the program. -/
import Derived.Test.YtmcefodfppdajaaMoves8
namespace Go.Proofs.Ytmcefodfppdajaa
open Go.RowKit Go.Maps Go.Deep

def Mo.opp (x : Mo) : Mo := ⟨x.p, x.t, x.f, x.a, x.b, x.n⟩
theorem Bk.sixf {w : World} {g t : Nat} {a b c d e f : Value} (h : Bk w g t #[a, b, c, d, e, f]) : w.frozen? ⟨g, 1, none⟩ = false ∧ w.frozen? ⟨g, 2, none⟩ = false ∧ w.frozen? ⟨g, 3, none⟩ = false ∧ w.frozen? ⟨g, 4, none⟩ = false := ⟨h.frozen 1, h.frozen 2, h.frozen 3, h.frozen 4⟩
theorem Bk.sixg {w : World} {g t : Nat} {a b c d e f : Value} (h : Bk w g t #[a, b, c, d, e, f]) : w.frozen? ⟨g, 0, none⟩ = false ∧ w.frozen? ⟨g, 1, none⟩ = false ∧ w.frozen? ⟨g, 2, none⟩ = false ∧ w.frozen? ⟨g, 3, none⟩ = false ∧ w.frozen? ⟨g, 4, none⟩ = false ∧ w.frozen? ⟨g, 5, none⟩ = false := ⟨h.frozen 0, h.frozen 1, h.frozen 2, h.frozen 3, h.frozen 4, h.frozen 5⟩
set_option maxRecDepth 100000 in
set_option maxHeartbeats 8000000 in
theorem opposite_any (x : Mo) (w : World) : Calls Try.prog 27 #[.agg #[.string x.p, .int .i64 x.f, .int .i64 x.t, .int .i64 x.b, .int .i64 x.a, .int .i64 x.n]] w fun e w' => Below w.heap.size w w' ∧ e = .returned (.agg #[.string x.p, .int .i64 x.t, .int .i64 x.f, .int .i64 x.a, .int .i64 x.b, .int .i64 x.n]) := by
  obtain ⟨p, f, t, b, a, m⟩ := x
  dsimp only
  go_enter Try.func27, Try.ntmps27
  go_wp2
  refine bodyPost_ret (v := .agg #[.string p, .int .i64 t, .int .i64 f, .int .i64 a, .int .i64 b, .int .i64 m]) (by simp [results, Try.results27, go_sem]) rfl ⟨?_, rfl⟩
  exact (by repeat (first | with_reducible exact Below.refl _ _ | with_reducible assumption | with_reducible refine Below.drew ?_ | with_reducible refine Below.drewN ?_ _ | with_reducible refine Below.alloc2 ?_ _ | with_reducible refine Below.alloc ?_ (by first | omega | (simp <;> omega)) _ | with_reducible refine Below.setCell ?_ (by first | omega | (simp <;> omega)) _ | with_reducible refine Below.step2 (by with_reducible assumption) ?_ | with_reducible refine Below.step (by with_reducible assumption) ?_ (by first | omega | (simp <;> omega))))
set_option maxRecDepth 100000 in
set_option maxHeartbeats 8000000 in
theorem undo_bad (x : Mo) (w : World) (hp : x.p.size ≤ 30) (h0 : moErr x ≠ 0) : Calls Try.prog 24 #[.agg #[.string x.p, .int .i64 x.f, .int .i64 x.t, .int .i64 x.b, .int .i64 x.a, .int .i64 x.n]] w fun e w' => Below w.heap.size w w' ∧ e = .returned (.tuple #[.agg #[.string ⟨#[]⟩, .int .i64 0, .int .i64 0, .int .i64 0, .int .i64 0, .int .i64 0], .int .i64 (moErr x)]) := by
  obtain ⟨E, hE⟩ : ∃ E, moErr x = E := ⟨_, rfl⟩
  have CM : Hid (∀ W, Calls Try.prog 25 #[.agg #[.string x.p, .int .i64 x.f, .int .i64 x.t, .int .i64 x.b, .int .i64 x.a, .int .i64 x.n]] W fun e w' => Below W.heap.size W w' ∧ e = .returned (.int .i64 E)) := Lib.hid fun W => by rw [← hE]; exact checkMovement_any x W hp
  rw [hE] at h0 ⊢
  have hq : (E != 0) = true := by simpa using h0
  clear hE h0
  obtain ⟨p, f, t, b, a, m⟩ := x
  dsimp only at CM hp ⊢
  have HB0 : Hid (Below w.heap.size w ((w.alloc (.cells #[.string p, .int .i64 f, .int .i64 t, .int .i64 b, .int .i64 a, .int .i64 m] 41)).alloc (.cells #[.string ⟨#[]⟩, .int .i64 0, .int .i64 0, .int .i64 0, .int .i64 0, .int .i64 0] 41))) := Lib.hid (by repeat (first | with_reducible exact Below.refl _ _ | with_reducible assumption | with_reducible refine Below.drew ?_ | with_reducible refine Below.drewN ?_ _ | with_reducible refine Below.alloc2 ?_ _ | with_reducible refine Below.alloc ?_ (by first | omega | (simp <;> omega)) _ | with_reducible refine Below.setCell ?_ (by first | omega | (simp <;> omega)) _ | with_reducible refine Below.step2 (by with_reducible assumption) ?_ | with_reducible refine Below.step (by with_reducible assumption) ?_ (by first | omega | (simp <;> omega))))
  have HX0 : Hid (Bk ((w.alloc (.cells #[.string p, .int .i64 f, .int .i64 t, .int .i64 b, .int .i64 a, .int .i64 m] 41)).alloc (.cells #[.string ⟨#[]⟩, .int .i64 0, .int .i64 0, .int .i64 0, .int .i64 0, .int .i64 0] 41)) w.heap.size 41 #[.string p, .int .i64 f, .int .i64 t, .int .i64 b, .int .i64 a, .int .i64 m]) := Lib.hid (by repeat (first | with_reducible assumption | with_reducible exact Bk.at_ (by first | (simp; done) | omega) | with_reducible refine Bk.alloc ?_ _ | with_reducible refine Bk.drew ?_ | with_reducible refine Bk.drewN ?_ _ | with_reducible refine Bk.step (by with_reducible assumption) ?_ (by first | omega | (simp <;> omega))))
  have HZ0 : Hid (Bk ((w.alloc (.cells #[.string p, .int .i64 f, .int .i64 t, .int .i64 b, .int .i64 a, .int .i64 m] 41)).alloc (.cells #[.string ⟨#[]⟩, .int .i64 0, .int .i64 0, .int .i64 0, .int .i64 0, .int .i64 0] 41)) (w.heap.size + 1) 41 #[.string ⟨#[]⟩, .int .i64 0, .int .i64 0, .int .i64 0, .int .i64 0, .int .i64 0]) := Lib.hid (Bk.at_ (by simp))
  go_enter Try.func24, Try.ntmps24
  go_wp2_with (first | (go_at_call 25; go_loud (with_reducible refine (CM.out _).mono ?_; rintro e w1 ⟨hb1, rfl⟩; have HB1 : Hid (Below w.heap.size w w1) := Lib.hid (HB0.out.trans (hb1.mono HB0.out.size)); have HX1 := Lib.hid (HX0.out.below hb1 HX0.out.lt); have HZ1 := Lib.hid (HZ0.out.below hb1 HZ0.out.lt); have ol1 := HX1.out.lt; have oz1 := HZ1.out.lt; obtain ⟨x0, x1, x2, x3, x4, x5⟩ := HX1.out.sixc; obtain ⟨z0, z1, z2, z3, z4, z5⟩ := HZ1.out.sixc; obtain ⟨f1, f2, f3, f4⟩ := HX1.out.sixf; obtain ⟨q0, q1, q2, q3, q4, q5⟩ := HZ1.out.sixg; clear hb1)))
  refine bodyPost_ret (v := .tuple #[.agg #[.string ⟨#[]⟩, .int .i64 0, .int .i64 0, .int .i64 0, .int .i64 0, .int .i64 0], .int .i64 E]) (by simp [results, Try.results24, go_sem, z0, z1, z2, z3, z4, z5]) rfl ⟨?_, rfl⟩
  have hb1 := HB1.out
  exact (by repeat (first | with_reducible exact Below.refl _ _ | with_reducible assumption | with_reducible refine Below.drew ?_ | with_reducible refine Below.drewN ?_ _ | with_reducible refine Below.alloc2 ?_ _ | with_reducible refine Below.alloc ?_ (by first | omega | (simp <;> omega)) _ | with_reducible refine Below.setCell ?_ (by first | omega | (simp <;> omega)) _ | with_reducible refine Below.step2 (by with_reducible assumption) ?_ | with_reducible refine Below.step (by with_reducible assumption) ?_ (by first | omega | (simp <;> omega))))
theorem swap_box {w1 : World} {g : Nat} {p : ByteArray} {f t b a m : Int} (h : Bk w1 g 41 #[.string p, .int .i64 f, .int .i64 t, .int .i64 b, .int .i64 a, .int .i64 m]) : Bk ((((w1.setCell ⟨g, 1, none⟩ (.int .i64 t)).setCell ⟨g, 2, none⟩ (.int .i64 f)).setCell ⟨g, 3, none⟩ (.int .i64 a)).setCell ⟨g, 4, none⟩ (.int .i64 b)) g 41 #[.string p, .int .i64 t, .int .i64 f, .int .i64 a, .int .i64 b, .int .i64 m] :=
  ((((h.set_ 1 (.int .i64 t)).set_ 2 (.int .i64 f)).set_ 3 (.int .i64 a)).set_ 4 (.int .i64 b)).cast (by simp)
theorem swap_far {w1 : World} {g k u : Nat} {cs : Array Value} {f t b a : Int} (h : Bk w1 k u cs) (hne : k ≠ g) : Bk ((((w1.setCell ⟨g, 1, none⟩ (.int .i64 t)).setCell ⟨g, 2, none⟩ (.int .i64 f)).setCell ⟨g, 3, none⟩ (.int .i64 a)).setCell ⟨g, 4, none⟩ (.int .i64 b)) k u cs := (((h.other hne _).other hne _).other hne _).other hne _
theorem swap_below {w w1 : World} {g D : Nat} {f t b a : Int} (h : Below D w w1) (hg : D ≤ g) : Below D w ((((w1.setCell ⟨g, 1, none⟩ (.int .i64 t)).setCell ⟨g, 2, none⟩ (.int .i64 f)).setCell ⟨g, 3, none⟩ (.int .i64 a)).setCell ⟨g, 4, none⟩ (.int .i64 b)) := (((h.setCell hg _).setCell hg _).setCell hg _).setCell hg _
theorem swap_size {w1 : World} {g : Nat} {f t b a : Int} : (((((w1.setCell ⟨g, 1, none⟩ (.int .i64 t)).setCell ⟨g, 2, none⟩ (.int .i64 f)).setCell ⟨g, 3, none⟩ (.int .i64 a)).setCell ⟨g, 4, none⟩ (.int .i64 b))).heap.size = w1.heap.size := by simp [World.setCell]
set_option maxRecDepth 100000 in
set_option maxHeartbeats 8000000 in
theorem undo_ok (x : Mo) (w : World) (hp : x.p.size ≤ 30) (h0 : moErr x = 0) (h1 : perm x.opp = true) : Calls Try.prog 24 #[.agg #[.string x.p, .int .i64 x.f, .int .i64 x.t, .int .i64 x.b, .int .i64 x.a, .int .i64 x.n]] w fun e w' => Below w.heap.size w w' ∧ e = .returned (.tuple #[.agg #[.string x.p, .int .i64 x.t, .int .i64 x.f, .int .i64 x.a, .int .i64 x.b, .int .i64 x.n], .int .i64 0]) := by
  have CM : Hid (∀ W, Calls Try.prog 25 #[.agg #[.string x.p, .int .i64 x.f, .int .i64 x.t, .int .i64 x.b, .int .i64 x.a, .int .i64 x.n]] W fun e w' => Below W.heap.size W w' ∧ e = .returned (.int .i64 0)) := Lib.hid fun W => by rw [← h0]; exact checkMovement_any x W hp
  have PM : Hid (∀ W, Calls Try.prog 62 #[.agg #[.string x.p, .int .i64 x.t, .int .i64 x.f, .int .i64 x.a, .int .i64 x.b, .int .i64 x.n]] W fun e w' => Below W.heap.size W w' ∧ e = .returned (.bool true)) := Lib.hid fun W => by rw [← h1]; exact isPermitted_any x.opp W
  clear h0 h1
  obtain ⟨p, f, t, b, a, m⟩ := x
  dsimp only at CM PM hp ⊢
  have HB0 : Hid (Below w.heap.size w ((w.alloc (.cells #[.string p, .int .i64 f, .int .i64 t, .int .i64 b, .int .i64 a, .int .i64 m] 41)).alloc (.cells #[.string ⟨#[]⟩, .int .i64 0, .int .i64 0, .int .i64 0, .int .i64 0, .int .i64 0] 41))) := Lib.hid (by repeat (first | with_reducible exact Below.refl _ _ | with_reducible assumption | with_reducible refine Below.drew ?_ | with_reducible refine Below.drewN ?_ _ | with_reducible refine Below.alloc2 ?_ _ | with_reducible refine Below.alloc ?_ (by first | omega | (simp <;> omega)) _ | with_reducible refine Below.setCell ?_ (by first | omega | (simp <;> omega)) _ | with_reducible refine Below.step2 (by with_reducible assumption) ?_ | with_reducible refine Below.step (by with_reducible assumption) ?_ (by first | omega | (simp <;> omega))))
  have HX0 : Hid (Bk ((w.alloc (.cells #[.string p, .int .i64 f, .int .i64 t, .int .i64 b, .int .i64 a, .int .i64 m] 41)).alloc (.cells #[.string ⟨#[]⟩, .int .i64 0, .int .i64 0, .int .i64 0, .int .i64 0, .int .i64 0] 41)) w.heap.size 41 #[.string p, .int .i64 f, .int .i64 t, .int .i64 b, .int .i64 a, .int .i64 m]) := Lib.hid (by repeat (first | with_reducible assumption | with_reducible exact Bk.at_ (by first | (simp; done) | omega) | with_reducible refine Bk.alloc ?_ _ | with_reducible refine Bk.drew ?_ | with_reducible refine Bk.drewN ?_ _ | with_reducible refine Bk.step (by with_reducible assumption) ?_ (by first | omega | (simp <;> omega))))
  have HZ0 : Hid (Bk ((w.alloc (.cells #[.string p, .int .i64 f, .int .i64 t, .int .i64 b, .int .i64 a, .int .i64 m] 41)).alloc (.cells #[.string ⟨#[]⟩, .int .i64 0, .int .i64 0, .int .i64 0, .int .i64 0, .int .i64 0] 41)) (w.heap.size + 1) 41 #[.string ⟨#[]⟩, .int .i64 0, .int .i64 0, .int .i64 0, .int .i64 0, .int .i64 0]) := Lib.hid (Bk.at_ (by simp))
  go_enter Try.func24, Try.ntmps24
  go_wp2_with (first | (go_at_call 25; go_loud (with_reducible refine (CM.out _).mono ?_; rintro e w1 ⟨hb1, rfl⟩; have HB1 : Hid (Below w.heap.size w w1) := Lib.hid (HB0.out.trans (hb1.mono HB0.out.size)); have HX1 := Lib.hid (HX0.out.below hb1 HX0.out.lt); have HZ1 := Lib.hid (HZ0.out.below hb1 HZ0.out.lt); have ol1 := HX1.out.lt; have oz1 := HZ1.out.lt; obtain ⟨x0, x1, x2, x3, x4, x5⟩ := HX1.out.sixc; obtain ⟨z0, z1, z2, z3, z4, z5⟩ := HZ1.out.sixc; obtain ⟨f1, f2, f3, f4⟩ := HX1.out.sixf; obtain ⟨q0, q1, q2, q3, q4, q5⟩ := HZ1.out.sixg; clear hb1)) | (go_at_call 62; go_loud (with_reducible refine (PM.out _).mono ?_; rintro e w2 ⟨hb2, rfl⟩; have HB2 : Hid (Below w.heap.size w w2) := Lib.hid (Below.trans (swap_below HB1.out (Nat.le_refl _)) (hb2.mono (by rw [swap_size]; exact HB1.out.size))); have HX2 := Lib.hid ((swap_box HX1.out).below hb2 (by rw [swap_size]; exact ol1)); have HZ2 := Lib.hid ((swap_far HZ1.out (by omega)).below hb2 (by rw [swap_size]; exact oz1)); obtain ⟨y0, y1, y2, y3, y4, y5⟩ := HX2.out.sixc; obtain ⟨u0, u1, u2, u3, u4, u5⟩ := HZ2.out.sixc; obtain ⟨v0, v1, v2, v3, v4, v5⟩ := HZ2.out.sixg; clear hb2)))
  refine bodyPost_ret (v := .tuple #[.agg #[.string p, .int .i64 t, .int .i64 f, .int .i64 a, .int .i64 b, .int .i64 m], .int .i64 0]) (by simp [results, Try.results24, go_sem, u0, u1, u2, u3, u4, u5]) rfl ⟨?_, rfl⟩
  have hb1 := HB2.out
  exact (by repeat (first | with_reducible exact Below.refl _ _ | with_reducible assumption | with_reducible refine Below.drew ?_ | with_reducible refine Below.drewN ?_ _ | with_reducible refine Below.alloc2 ?_ _ | with_reducible refine Below.alloc ?_ (by first | omega | (simp <;> omega)) _ | with_reducible refine Below.setCell ?_ (by first | omega | (simp <;> omega)) _ | with_reducible refine Below.step2 (by with_reducible assumption) ?_ | with_reducible refine Below.step (by with_reducible assumption) ?_ (by first | omega | (simp <;> omega))))
set_option maxRecDepth 100000 in
set_option maxHeartbeats 8000000 in
theorem undo_not (x : Mo) (w : World) (hp : x.p.size ≤ 30) (h0 : moErr x = 0) (h1 : perm x.opp = false) : Calls Try.prog 24 #[.agg #[.string x.p, .int .i64 x.f, .int .i64 x.t, .int .i64 x.b, .int .i64 x.a, .int .i64 x.n]] w fun e w' => Below w.heap.size w w' ∧ e = .returned (.tuple #[.agg #[.string ⟨#[]⟩, .int .i64 0, .int .i64 0, .int .i64 0, .int .i64 0, .int .i64 0], .int .i64 21]) := by
  have CM : Hid (∀ W, Calls Try.prog 25 #[.agg #[.string x.p, .int .i64 x.f, .int .i64 x.t, .int .i64 x.b, .int .i64 x.a, .int .i64 x.n]] W fun e w' => Below W.heap.size W w' ∧ e = .returned (.int .i64 0)) := Lib.hid fun W => by rw [← h0]; exact checkMovement_any x W hp
  have PM : Hid (∀ W, Calls Try.prog 62 #[.agg #[.string x.p, .int .i64 x.t, .int .i64 x.f, .int .i64 x.a, .int .i64 x.b, .int .i64 x.n]] W fun e w' => Below W.heap.size W w' ∧ e = .returned (.bool false)) := Lib.hid fun W => by rw [← h1]; exact isPermitted_any x.opp W
  clear h0 h1
  obtain ⟨p, f, t, b, a, m⟩ := x
  dsimp only at CM PM hp ⊢
  have HB0 : Hid (Below w.heap.size w ((w.alloc (.cells #[.string p, .int .i64 f, .int .i64 t, .int .i64 b, .int .i64 a, .int .i64 m] 41)).alloc (.cells #[.string ⟨#[]⟩, .int .i64 0, .int .i64 0, .int .i64 0, .int .i64 0, .int .i64 0] 41))) := Lib.hid (by repeat (first | with_reducible exact Below.refl _ _ | with_reducible assumption | with_reducible refine Below.drew ?_ | with_reducible refine Below.drewN ?_ _ | with_reducible refine Below.alloc2 ?_ _ | with_reducible refine Below.alloc ?_ (by first | omega | (simp <;> omega)) _ | with_reducible refine Below.setCell ?_ (by first | omega | (simp <;> omega)) _ | with_reducible refine Below.step2 (by with_reducible assumption) ?_ | with_reducible refine Below.step (by with_reducible assumption) ?_ (by first | omega | (simp <;> omega))))
  have HX0 : Hid (Bk ((w.alloc (.cells #[.string p, .int .i64 f, .int .i64 t, .int .i64 b, .int .i64 a, .int .i64 m] 41)).alloc (.cells #[.string ⟨#[]⟩, .int .i64 0, .int .i64 0, .int .i64 0, .int .i64 0, .int .i64 0] 41)) w.heap.size 41 #[.string p, .int .i64 f, .int .i64 t, .int .i64 b, .int .i64 a, .int .i64 m]) := Lib.hid (by repeat (first | with_reducible assumption | with_reducible exact Bk.at_ (by first | (simp; done) | omega) | with_reducible refine Bk.alloc ?_ _ | with_reducible refine Bk.drew ?_ | with_reducible refine Bk.drewN ?_ _ | with_reducible refine Bk.step (by with_reducible assumption) ?_ (by first | omega | (simp <;> omega))))
  have HZ0 : Hid (Bk ((w.alloc (.cells #[.string p, .int .i64 f, .int .i64 t, .int .i64 b, .int .i64 a, .int .i64 m] 41)).alloc (.cells #[.string ⟨#[]⟩, .int .i64 0, .int .i64 0, .int .i64 0, .int .i64 0, .int .i64 0] 41)) (w.heap.size + 1) 41 #[.string ⟨#[]⟩, .int .i64 0, .int .i64 0, .int .i64 0, .int .i64 0, .int .i64 0]) := Lib.hid (Bk.at_ (by simp))
  go_enter Try.func24, Try.ntmps24
  go_wp2_with (first | (go_at_call 25; go_loud (with_reducible refine (CM.out _).mono ?_; rintro e w1 ⟨hb1, rfl⟩; have HB1 : Hid (Below w.heap.size w w1) := Lib.hid (HB0.out.trans (hb1.mono HB0.out.size)); have HX1 := Lib.hid (HX0.out.below hb1 HX0.out.lt); have HZ1 := Lib.hid (HZ0.out.below hb1 HZ0.out.lt); have ol1 := HX1.out.lt; have oz1 := HZ1.out.lt; obtain ⟨x0, x1, x2, x3, x4, x5⟩ := HX1.out.sixc; obtain ⟨z0, z1, z2, z3, z4, z5⟩ := HZ1.out.sixc; obtain ⟨f1, f2, f3, f4⟩ := HX1.out.sixf; obtain ⟨q0, q1, q2, q3, q4, q5⟩ := HZ1.out.sixg; clear hb1)) | (go_at_call 62; go_loud (with_reducible refine (PM.out _).mono ?_; rintro e w2 ⟨hb2, rfl⟩; have HB2 : Hid (Below w.heap.size w w2) := Lib.hid (Below.trans (swap_below HB1.out (Nat.le_refl _)) (hb2.mono (by rw [swap_size]; exact HB1.out.size))); have HX2 := Lib.hid ((swap_box HX1.out).below hb2 (by rw [swap_size]; exact ol1)); have HZ2 := Lib.hid ((swap_far HZ1.out (by omega)).below hb2 (by rw [swap_size]; exact oz1)); obtain ⟨y0, y1, y2, y3, y4, y5⟩ := HX2.out.sixc; obtain ⟨u0, u1, u2, u3, u4, u5⟩ := HZ2.out.sixc; obtain ⟨v0, v1, v2, v3, v4, v5⟩ := HZ2.out.sixg; clear hb2)))
  refine bodyPost_ret (v := .tuple #[.agg #[.string ⟨#[]⟩, .int .i64 0, .int .i64 0, .int .i64 0, .int .i64 0, .int .i64 0], .int .i64 21]) (by simp [results, Try.results24, go_sem, u0, u1, u2, u3, u4, u5]) rfl ⟨?_, rfl⟩
  have hb1 := HB2.out
  exact (by repeat (first | with_reducible exact Below.refl _ _ | with_reducible assumption | with_reducible refine Below.drew ?_ | with_reducible refine Below.drewN ?_ _ | with_reducible refine Below.alloc2 ?_ _ | with_reducible refine Below.alloc ?_ (by first | omega | (simp <;> omega)) _ | with_reducible refine Below.setCell ?_ (by first | omega | (simp <;> omega)) _ | with_reducible refine Below.step2 (by with_reducible assumption) ?_ | with_reducible refine Below.step (by with_reducible assumption) ?_ (by first | omega | (simp <;> omega))))
set_option maxRecDepth 100000 in
set_option maxHeartbeats 8000000 in
theorem move1_bad (A : Option Addr) (n ca : Nat) (l : List Q4) (x : Mo) (w : World) (h : Rws Q4.cs 4 w w.heap.size A n ca l) (hs : ∀ x ∈ l, x.s.size ≤ 30) (h0 : stockErr l ≠ 0) :
    Calls Try.prog 28 #[.slice A n ca, .agg #[.string x.p, .int .i64 x.f, .int .i64 x.t, .int .i64 x.b, .int .i64 x.a, .int .i64 x.n]] w fun e w' => Below w.heap.size w w' ∧ e = .returned (.tuple #[.slice none 0 0, .int .i64 (stockErr l)]) := by
  have hcap := h.cap
  have hmax := h.max
  have H : Hid (∀ w', Below w.heap.size w w' → Rws Q4.cs 4 w' w'.heap.size A n ca l) := Lib.hid fun w' hb => h.below hb (Nat.le_refl _) hb.size
  have MV : Hid (∀ W g, Below w.heap.size w W → Calls Try.prog 30 #[.slice A n ca, .slice (some ⟨g, 0, none⟩) 1 1] W fun e w' => Below W.heap.size W w' ∧ e = .returned (.tuple #[.slice none 0 0, .int .i64 0, .int .i64 (stockErr l)])) := Lib.hid fun W g hW => moves_bad A _ n ca 1 1 l W (H.out W hW) hs h0 (by omega)
  obtain ⟨E, hE⟩ : ∃ E, stockErr l = E := ⟨_, rfl⟩
  rw [hE] at MV ⊢
  clear hE h0 h hs
  obtain ⟨p, f, t, b, a, m⟩ := x
  dsimp only
  have HB0 : Hid (Below w.heap.size w ((w.alloc (.cells #[.string p, .int .i64 f, .int .i64 t, .int .i64 b, .int .i64 a, .int .i64 m] 41)).alloc (.cells #[.string p, .int .i64 f, .int .i64 t, .int .i64 b, .int .i64 a, .int .i64 m] 41))) := Lib.hid (by repeat (first | with_reducible exact Below.refl _ _ | with_reducible assumption | with_reducible refine Below.drew ?_ | with_reducible refine Below.drewN ?_ _ | with_reducible refine Below.alloc2 ?_ _ | with_reducible refine Below.alloc ?_ (by first | omega | (simp <;> omega)) _ | with_reducible refine Below.setCell ?_ (by first | omega | (simp <;> omega)) _ | with_reducible refine Below.step2 (by with_reducible assumption) ?_ | with_reducible refine Below.step (by with_reducible assumption) ?_ (by first | omega | (simp <;> omega))))
  go_enter Try.func28, Try.ntmps28
  go_wp2_with (go_at_call 30; go_loud (with_reducible refine (MV.out _ _ HB0.out).mono ?_; rintro e w1 ⟨hb1, rfl⟩; have HB1 : Hid (Below w.heap.size w w1) := Lib.hid (HB0.out.trans (hb1.mono HB0.out.size)); clear hb1))
  go_ret2
  exact ⟨HB1.out, rfl⟩
set_option maxRecDepth 100000 in
set_option maxHeartbeats 8000000 in
theorem move1_ok (A : Option Addr) (n ca : Nat) (l : List Q4) (x : Mo) (w : World) (h : Rws Q4.cs 4 w w.heap.size A n ca l) (hs : ∀ x ∈ l, x.s.size ≤ 30) (h0 : stockErr l = 0) (hp : x.p.size ≤ 30) :
    Calls Try.prog 28 #[.slice A n ca, .agg #[.string x.p, .int .i64 x.f, .int .i64 x.t, .int .i64 x.b, .int .i64 x.a, .int .i64 x.n]] w fun e w' => Below w.heap.size w w' ∧ ∃ (A3 : Option Addr) (c3 : Nat) (L : List Q4), e = .returned (.tuple #[.slice A3 L.length c3, .int .i64 (mvErr (cntS l) x)]) ∧ MvOut (cntS l) [x] L ∧ Rws Q4.cs 4 w' w'.heap.size A3 L.length c3 L := by
  have hcap := h.cap
  have hmax := h.max
  have H : Hid (∀ w', Below w.heap.size w w' → Rws Q4.cs 4 w' w'.heap.size A n ca l) := Lib.hid fun w' hb => h.below hb (Nat.le_refl _) hb.size
  obtain ⟨p, f, t, b, a, m⟩ := x
  obtain ⟨Z, K, hZ⟩ : ∃ Z K, mvsR (cntS l) [⟨p, f, t, b, a, m⟩] = (Z, K) := ⟨_, _, rfl⟩
  have hZ1 : mvErr (cntS l) ⟨p, f, t, b, a, m⟩ = Z := by
    have : (mvsR (cntS l) [⟨p, f, t, b, a, m⟩]).1 = Z := by rw [hZ]
    rw [← this, mvsR]
    split
    · rename_i e; rw [e]; rfl
    · rfl
  have MV : Hid (∀ W g, Below w.heap.size w W → Bk W g 41 #[.string p, .int .i64 f, .int .i64 t, .int .i64 b, .int .i64 a, .int .i64 m] → Calls Try.prog 30 #[.slice A n ca, .slice (some ⟨g, 0, none⟩) 1 1] W fun e w' => Below W.heap.size W w' ∧ ∃ (A3 : Option Addr) (c3 : Nat) (L : List Q4), e = .returned (.tuple #[.slice A3 L.length c3, .int .i64 K, .int .i64 Z]) ∧ MvOut (cntS l) [⟨p, f, t, b, a, m⟩] L ∧ Rws Q4.cs 4 w' w'.heap.size A3 L.length c3 L) := Lib.hid fun W g hW hg => by
    refine (moves_ok A (some ⟨g, 0, none⟩) n ca 1 1 l [⟨p, f, t, b, a, m⟩] W (H.out W hW) (Rws.of_bk (t := 41) Mo.wide hg rfl (by omega) hg.lt) hs h0 (fun x hx => by rw [List.mem_singleton.1 hx]; exact hp) (by omega) (by omega)).mono ?_
    rintro e w' ⟨hb', v, L, rfl, ho, hr⟩
    obtain ⟨A3, c3, rfl, hr2⟩ := Rws.of_own hr rfl
    exact ⟨hb', A3, c3, L, by rw [hZ], ho, hr2⟩
  rw [hZ1]
  clear hZ hZ1 h0 h hs
  dsimp only at hp ⊢
  have HB0 : Hid (Below w.heap.size w ((w.alloc (.cells #[.string p, .int .i64 f, .int .i64 t, .int .i64 b, .int .i64 a, .int .i64 m] 41)).alloc (.cells #[.string p, .int .i64 f, .int .i64 t, .int .i64 b, .int .i64 a, .int .i64 m] 41))) := Lib.hid (by repeat (first | with_reducible exact Below.refl _ _ | with_reducible assumption | with_reducible refine Below.drew ?_ | with_reducible refine Below.drewN ?_ _ | with_reducible refine Below.alloc2 ?_ _ | with_reducible refine Below.alloc ?_ (by first | omega | (simp <;> omega)) _ | with_reducible refine Below.setCell ?_ (by first | omega | (simp <;> omega)) _ | with_reducible refine Below.step2 (by with_reducible assumption) ?_ | with_reducible refine Below.step (by with_reducible assumption) ?_ (by first | omega | (simp <;> omega))))
  have HX0 : Hid (Bk ((w.alloc (.cells #[.string p, .int .i64 f, .int .i64 t, .int .i64 b, .int .i64 a, .int .i64 m] 41)).alloc (.cells #[.string p, .int .i64 f, .int .i64 t, .int .i64 b, .int .i64 a, .int .i64 m] 41)) (w.heap.size + 1) 41 #[.string p, .int .i64 f, .int .i64 t, .int .i64 b, .int .i64 a, .int .i64 m]) := Lib.hid (Bk.at_ (by simp))
  go_enter Try.func28, Try.ntmps28
  go_wp2_with (go_at_call 30; go_loud (with_reducible refine (MV.out _ _ HB0.out HX0.out).mono ?_; rintro e w1 ⟨hb1, A3, c3, L, rfl, ho1, hr1⟩; have HO1 := Lib.hid ho1; have HR1 := Lib.hid hr1; have HB1 : Hid (Below w.heap.size w w1) := Lib.hid (HB0.out.trans (hb1.mono HB0.out.size)); clear hb1 ho1 hr1))
  go_ret2
  exact ⟨HB1.out, A3, c3, L, rfl, HO1.out, HR1.out⟩

end Go.Proofs.Ytmcefodfppdajaa
