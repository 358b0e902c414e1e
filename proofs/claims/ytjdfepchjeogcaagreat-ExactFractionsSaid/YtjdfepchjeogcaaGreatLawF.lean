/- Several texts in one. -/
import Derived.Test.YtjdfepchjeogcaaGreatRefH
import Derived.Test.YtjdfepchjeogcaaGreatFracE
import Derived.Test.YtjdfepchjeogcaaGreatRefG
import Derived.Test.YtjdfepchjeogcaaGreatRows
import Derived.Test.YtjdfepchjeogcaaGreatMem
import Derived.Below
import Derived.ProofKit
import Derived.Test.YtjdfepchjeogcaaGreatIntH
import Derived.Lib.SmallJoins
import Derived.Deep.Slices
import Derived.Deep.Fields
import Derived.OpenShut
/- The walk of ExactFractions. -/
namespace Go.Proofs.YtjdfepchjeogcaaGreat
open Go.RowKit

theorem cmp_num (x : Rat) : cmpI x.num 0 = cmpQ x 0 := by
  have h := cmp_cross (p := x.num) (q := (x.den : Int)) (r := 0) (s := 1) (y := 0) (Rat.num_divInt_den x) (by rfl) (by have := x.den_pos; omega) (by omega)
  simpa using h
theorem floor_one {F G : Int} {x : Rat} (h1 : (F : Rat) ≤ x) (h2 : x < (F : Rat) + 1) (h3 : (G : Rat) ≤ x) (h4 : x < (G : Rat) + 1) : F = G := by
  have key : ∀ {a b : Int}, (a : Rat) ≤ x → x < (b : Rat) + 1 → a ≤ b := by
    intro a b ha hb
    have h : (a : Rat) < (b : Rat) + 1 := by grind
    have e : (b : Rat) + 1 = ((b + 1 : Int) : Rat) := by rw [Rat.intCast_add]; rfl
    rw [e] at h
    have : a < b + 1 := by exact_mod_cast h
    omega
  have := key h1 h4
  have := key h3 h2
  omega
/-- A fraction and an error number, by zero too: the parts. -/
structure RatN (z : Prop) (r : Rat) (P Q f : Int) : Prop where
  zero : z → P = 0 ∧ Q = 0 ∧ f = 9
  other : ¬ z → P = r.num ∧ Q = (r.den : Int) ∧ f = 0
theorem ratN (z : Prop) (r : Rat) : ∃ P Q f, RatN z r P Q f := by
  by_cases h : z
  · exact ⟨0, 0, 9, fun _ => ⟨rfl, rfl, rfl⟩, fun h' => absurd h h'⟩
  · exact ⟨r.num, r.den, 0, fun h' => absurd h' h, fun _ => ⟨rfl, rfl, rfl⟩⟩
abbrev RatU (P Q f : Int) (K : Nat) (w : World) (e : Ending) (w' : World) : Prop :=
  Below w.heap.size w w' ∧ ∃ s1 A1 n1 c1 s2 A2 n2 c2, e = .returned (.tuple #[.agg #[.bool s1, .slice A1 n1 c1, .bool s2, .slice A2 n2 c2], .int .i64 f]) ∧ IntH w' s1 A1 n1 c1 P K true ∧ IntH w' s2 A2 n2 c2 Q K true
section
variable {w w1 w2 w3 w4 : World} {s1 s2 s3 s4 : Bool} {A1 A2 A3 A4 : Option Addr} {n1 c1 n2 c2 n3 c3 n4 c4 : Nat} {x y : Rat} {K1 K2 K3 K4 : Nat} {f1 f2 : Bool} {P Q f : Int}
theorem RatU.zero_ (K : Nat) {e : Ending} {w' : World} (h : Below w.heap.size w w' ∧ e = .returned (.tuple #[.agg #[.bool false, .slice none 0 0, .bool false, .slice none 0 0], .int .i64 9])) : RatU 0 0 9 K w e w' :=
  ⟨h.1, false, none, 0, 0, false, none, 0, 0, h.2, (IntH.nil_ w').tight (by simpa using W_pos _), (IntH.nil_ w').tight (by simpa using W_pos _)⟩
theorem RatU.of {r : Rat} {K K' : Nat} {e : Ending} {w' : World} (hk : K ≤ K') (h : Below w.heap.size w w' ∧ ∃ s1 A1 n1 c1 s2 A2 n2 c2, e = .returned (.tuple #[.agg #[.bool s1, .slice A1 n1 c1, .bool s2, .slice A2 n2 c2], .int .i64 0]) ∧ RatH w' s1 A1 n1 c1 s2 A2 n2 c2 r K true) : RatU r.num r.den 0 K' w e w' := by
  obtain ⟨hb, s1, A1, n1, c1, s2, A2, n2, c2, rfl, hr⟩ := h
  exact ⟨hb, s1, A1, n1, c1, s2, A2, n2, c2, rfl, hr.parts2.1.wide hk, hr.parts2.2.wide hk⟩
theorem ratioU {n d : Int} (hN : RatN (d = 0) (Rat.divInt n d) P Q f) (w : World) (h1 : -9223372036854775808 ≤ n) (h2 : n ≤ 9223372036854775807) (h3 : -9223372036854775808 ≤ d) (h4 : d ≤ 9223372036854775807) :
    Calls Tryz.prog 25 #[.int .i64 n, .int .i64 d] w (RatU P Q f 6 w) := by
  by_cases h0 : d = 0
  · obtain ⟨rfl, rfl, rfl⟩ := hN.zero h0
    subst h0
    exact (ratioH0 n w).mono fun _ _ h => .zero_ 6 h
  · obtain ⟨rfl, rfl, rfl⟩ := hN.other h0
    exact (ratioH n d w h1 h2 h3 h4 h0).mono fun _ _ h => .of (Nat.le_refl _) h
theorem rratioU {n d : Int} (hN : RatN (d = 0) (Rat.divInt n d) P Q f) (w : World) (h1 : -9223372036854775808 ≤ n) (h2 : n ≤ 9223372036854775807) (h3 : -9223372036854775808 ≤ d) (h4 : d ≤ 9223372036854775807) :
    Calls Tryz.prog 26 #[.int .i64 n, .int .i64 d] w (RatU P Q f 6 w) := by
  by_cases h0 : d = 0
  · obtain ⟨rfl, rfl, rfl⟩ := hN.zero h0
    subst h0
    exact (rratioH0 n w).mono fun _ _ h => .zero_ 6 h
  · obtain ⟨rfl, rfl, rfl⟩ := hN.other h0
    exact (rratioH n d w h1 h2 h3 h4 h0).mono fun _ _ h => .of (Nat.le_refl _) h
theorem quoU (hN : RatN (y = 0) (x / y) P Q f) (h1 : RatH w1 s1 A1 n1 c1 s2 A2 n2 c2 x 3 f1) (h2 : RatH w2 s3 A3 n3 c3 s4 A4 n4 c4 y 3 f2) (b1 : Below w1.heap.size w1 w) (b2 : Below w2.heap.size w2 w) :
    Calls Tryz.prog 38 #[.agg #[.bool s1, .slice A1 n1 c1, .bool s2, .slice A2 n2 c2], .agg #[.bool s3, .slice A3 n3 c3, .bool s4, .slice A4 n4 c4]] w (RatU P Q f 16 w) := by
  by_cases h0 : y = 0
  · obtain ⟨rfl, rfl, rfl⟩ := hN.zero h0
    exact (quoH0 h1 h2 b1 b2 h0).mono fun _ _ h => .zero_ 16 h
  · obtain ⟨rfl, rfl, rfl⟩ := hN.other h0
    exact (quoH h1 h2 b1 b2 (by omega) (by omega) h0).mono fun _ _ h => .of (Nat.le_refl _) h
theorem rquoU (hN : RatN (y = 0) (x / y) P Q f) (h1 : RatH w1 s1 A1 n1 c1 s2 A2 n2 c2 x 3 f1) (h2 : RatH w2 s3 A3 n3 c3 s4 A4 n4 c4 y 3 f2) (b1 : Below w1.heap.size w1 w) (b2 : Below w2.heap.size w2 w) :
    Calls Tryz.prog 39 #[.agg #[.bool s1, .slice A1 n1 c1, .bool s2, .slice A2 n2 c2], .agg #[.bool s3, .slice A3 n3 c3, .bool s4, .slice A4 n4 c4]] w (RatU P Q f 16 w) := by
  by_cases h0 : y = 0
  · obtain ⟨rfl, rfl, rfl⟩ := hN.zero h0
    exact (rquoH0 h1 h2 b1 b2 (by omega) (by omega) (by omega) h0).mono fun _ _ h => .zero_ 16 h
  · obtain ⟨rfl, rfl, rfl⟩ := hN.other h0
    exact (rquoH h1 h2 b1 b2 (by omega) (by omega) (by omega) h0).mono fun _ _ h => .of (by omega) h
set_option maxRecDepth 100000 in
set_option maxHeartbeats 4000000 in
theorem samePH {a b c d : Int} (p1 : IntH w1 s1 A1 n1 c1 a K1 true) (p2 : IntH w2 s2 A2 n2 c2 b K2 true) (p3 : IntH w3 s3 A3 n3 c3 c K3 true) (p4 : IntH w4 s4 A4 n4 c4 d K4 true) (b1 : Below w1.heap.size w1 w) (b2 : Below w2.heap.size w2 w) (b3 : Below w3.heap.size w3 w) (b4 : Below w4.heap.size w4 w) (e1 : a = c) (e2 : b = d) :
    Calls Tryz.prog 27 #[.agg #[.bool s1, .slice A1 n1 c1, .bool s2, .slice A2 n2 c2], .agg #[.bool s3, .slice A3 n3 c3, .bool s4, .slice A4 n4 c4]] w fun e w' => Below w.heap.size w w' ∧ e = .returned (.bool true) := by
  go_enter Tryz.func27, Tryz.ntmps27
  go_wp2_with (first
    | (go_at_call 11; with_reducible refine (sameH p1 p3 ?_ ?_ e1).mono ?_; (focus (exact (by repeat (first | with_reducible exact Below.refl _ _ | with_reducible assumption | with_reducible refine Below.drew ?_ | with_reducible refine Below.drewN ?_ _ | with_reducible refine Below.alloc2 ?_ _ | with_reducible refine Below.alloc ?_ (by first | omega | (simp <;> omega)) _ | with_reducible refine Below.setCell ?_ (by first | omega | (simp <;> omega)) _ | with_reducible refine Below.step2 (by with_reducible assumption) ?_ | with_reducible refine Below.step (by with_reducible assumption) ?_ (by first | omega | (simp <;> omega)))))); (focus (exact (by repeat (first | with_reducible exact Below.refl _ _ | with_reducible assumption | with_reducible refine Below.drew ?_ | with_reducible refine Below.drewN ?_ _ | with_reducible refine Below.alloc2 ?_ _ | with_reducible refine Below.alloc ?_ (by first | omega | (simp <;> omega)) _ | with_reducible refine Below.setCell ?_ (by first | omega | (simp <;> omega)) _ | with_reducible refine Below.step2 (by with_reducible assumption) ?_ | with_reducible refine Below.step (by with_reducible assumption) ?_ (by first | omega | (simp <;> omega)))))); rintro e wn ⟨hbn, rfl⟩; have kx : Bk wn w.heap.size 41 #[.bool s1, .slice A1 n1 c1, .bool s2, .slice A2 n2 c2] := (by repeat (first | with_reducible assumption | with_reducible exact Bk.at_ (by first | (simp; done) | omega) | with_reducible refine Bk.alloc ?_ _ | with_reducible refine Bk.drew ?_ | with_reducible refine Bk.drewN ?_ _ | with_reducible refine Bk.step (by with_reducible assumption) ?_ (by first | omega | (simp <;> omega)))); have ky : Bk wn (w.heap.size + 1) 41 #[.bool s3, .slice A3 n3 c3, .bool s4, .slice A4 n4 c4] := (by repeat (first | with_reducible assumption | with_reducible exact Bk.at_ (by first | (simp; done) | omega) | with_reducible refine Bk.alloc ?_ _ | with_reducible refine Bk.drew ?_ | with_reducible refine Bk.drewN ?_ _ | with_reducible refine Bk.step (by with_reducible assumption) ?_ (by first | omega | (simp <;> omega)))); obtain ⟨⟨x0, x1, x2, x3⟩, -⟩ := kx.quad; obtain ⟨⟨y0, y1, y2, y3⟩, -⟩ := ky.quad; have ozn := hbn.size; (try simp at ozn); have ox := kx.lt; have oy := ky.lt)
    | (go_at_call 11; with_reducible refine (sameH p2 p4 ?_ ?_ e2).mono ?_; (focus (exact (by repeat (first | with_reducible exact Below.refl _ _ | with_reducible assumption | with_reducible refine Below.drew ?_ | with_reducible refine Below.drewN ?_ _ | with_reducible refine Below.alloc2 ?_ _ | with_reducible refine Below.alloc ?_ (by first | omega | (simp <;> omega)) _ | with_reducible refine Below.setCell ?_ (by first | omega | (simp <;> omega)) _ | with_reducible refine Below.step2 (by with_reducible assumption) ?_ | with_reducible refine Below.step (by with_reducible assumption) ?_ (by first | omega | (simp <;> omega)))))); (focus (exact (by repeat (first | with_reducible exact Below.refl _ _ | with_reducible assumption | with_reducible refine Below.drew ?_ | with_reducible refine Below.drewN ?_ _ | with_reducible refine Below.alloc2 ?_ _ | with_reducible refine Below.alloc ?_ (by first | omega | (simp <;> omega)) _ | with_reducible refine Below.setCell ?_ (by first | omega | (simp <;> omega)) _ | with_reducible refine Below.step2 (by with_reducible assumption) ?_ | with_reducible refine Below.step (by with_reducible assumption) ?_ (by first | omega | (simp <;> omega)))))); rintro e wm ⟨hbm, rfl⟩))
  go_ret
  exact ⟨(by repeat (first | with_reducible exact Below.refl _ _ | with_reducible assumption | with_reducible refine Below.drew ?_ | with_reducible refine Below.drewN ?_ _ | with_reducible refine Below.alloc2 ?_ _ | with_reducible refine Below.alloc ?_ (by first | omega | (simp <;> omega)) _ | with_reducible refine Below.setCell ?_ (by first | omega | (simp <;> omega)) _ | with_reducible refine Below.step2 (by with_reducible assumption) ?_ | with_reducible refine Below.step (by with_reducible assumption) ?_ (by first | omega | (simp <;> omega)))), rfl⟩
end
set_option maxRecDepth 100000 in
set_option maxHeartbeats 16000000 in
theorem lawFrac_any (sx tx sy ty : Bool) (X P Y Q : Option Addr) (nx cx mx dx ny cy my dy : Nat) (lx px ly py : List Nat) (n d : Int) (w : World) (hx : Lim w w.heap.size X nx cx lx) (hp : Lim w w.heap.size P mx dx px) (hy : Lim w w.heap.size Y ny cy ly) (hq : Lim w w.heap.size Q my dy py)
    (hn1 : -9223372036854775808 ≤ n) (hn2 : n ≤ 9223372036854775807) (hd1 : -9223372036854775808 ≤ d) (hd2 : d ≤ 9223372036854775807) :
    Calls Tryz.prog 5 #[.agg #[.bool sx, .slice X nx cx, .bool tx, .slice P mx dx], .agg #[.bool sy, .slice Y ny cy, .bool ty, .slice Q my dy], .agg #[.int .i64 n, .int .i64 d]] w fun e w' => Below w.heap.size w w' ∧ e = .returned (.bool true) := by
  have SHO : Hid (∀ g (w' : World), Bk w' g 41 #[.bool sx, .slice X nx cx, .bool tx, .slice P mx dx, .bool sy, .slice Y ny cy, .bool ty, .slice Q my dy] → Calls Tryz.prog 24 #[.slice (some ⟨g, 0, none⟩) 2 2] w' fun e w'' => w' = w'' ∧ e = .returned (.bool (decide (nx ≤ 3) && decide (mx ≤ 3) && decide (ny ≤ 3) && decide (my ≤ 3)))) := Lib.hid fun g w' h => brief2_any _ _ _ _ _ _ _ _ _ _ _ _ _ _ _ _ g w' h
  obtain ⟨sbb, hsb⟩ : ∃ b, (decide (nx ≤ 3) && decide (mx ≤ 3) && decide (ny ≤ 3) && decide (my ≤ 3)) = b := ⟨_, rfl⟩
  rw [hsb] at SHO
  cases sbb
  · clear hsb hx hy hp hq
    go_enter Tryz.func5, Tryz.ntmps5
    go_wp2_with (first
        | (go_at_call 24; with_reducible refine (SHO.out _ _ ?_).mono ?_; (focus (exact (by repeat (first | with_reducible assumption | with_reducible exact Bk.at_ (by first | (simp; done) | omega) | with_reducible refine Bk.alloc ?_ _ | with_reducible refine Bk.drew ?_ | with_reducible refine Bk.drewN ?_ _ | with_reducible refine Bk.step (by with_reducible assumption) ?_ (by first | omega | (simp <;> omega)))))); rintro e w1 ⟨rfl, rfl⟩)
        | (go_at_call 8; with_reducible refine (awake_true _).mono ?_; rintro e w2 ⟨hb2, rfl⟩))
    go_ret
    exact ⟨(by repeat (first | with_reducible exact Below.refl _ _ | with_reducible assumption | with_reducible refine Below.drew ?_ | with_reducible refine Below.drewN ?_ _ | with_reducible refine Below.alloc2 ?_ _ | with_reducible refine Below.alloc ?_ (by first | omega | (simp <;> omega)) _ | with_reducible refine Below.setCell ?_ (by first | omega | (simp <;> omega)) _ | with_reducible refine Below.step2 (by with_reducible assumption) ?_ | with_reducible refine Below.step (by with_reducible assumption) ?_ (by first | omega | (simp <;> omega)))), rfl⟩
  simp only [Bool.and_eq_true, decide_eq_true_eq] at hsb
  obtain ⟨⟨⟨q1, q2⟩, q3⟩, q4⟩ := hsb
  have ix : RatH w sx X nx cx tx P mx dx (frac (sg sx (val lx)) (sg tx (val px))) 3 false := ⟨⟨lx, px, fun w' hb => hx.below hb (Nat.le_refl _) hb.size, fun w' hb => hp.below hb (Nat.le_refl _) hb.size, rfl, fun h => by cases h⟩, q1, q2⟩
  have iy : RatH w sy Y ny cy ty Q my dy (frac (sg sy (val ly)) (sg ty (val py))) 3 false := ⟨⟨ly, py, fun w' hb => hy.below hb (Nat.le_refl _) hb.size, fun w' hb => hq.below hb (Nat.le_refl _) hb.size, rfl, fun h => by cases h⟩, q3, q4⟩
  generalize frac (sg sx (val lx)) (sg tx (val px)) = x at ix
  generalize frac (sg sy (val ly)) (sg ty (val py)) = y at iy
  clear hx hy hp hq
  obtain ⟨ra, rb, rf, hR⟩ := ratN (d = 0) (Rat.divInt n d)
  obtain ⟨ua, ub, uf, hU⟩ := ratN (y = 0) (x / y)
  go_enter Tryz.func5, Tryz.ntmps5
  go_upto_region 3 with (go_at_call 24; with_reducible refine (SHO.out _ _ ?_).mono ?_; (focus (exact (by repeat (first | with_reducible assumption | with_reducible exact Bk.at_ (by first | (simp; done) | omega) | with_reducible refine Bk.alloc ?_ _ | with_reducible refine Bk.drew ?_ | with_reducible refine Bk.drewN ?_ _ | with_reducible refine Bk.step (by with_reducible assumption) ?_ (by first | omega | (simp <;> omega)))))); rintro e w1 ⟨rfl, rfl⟩)
  obtain ⟨W, hW⟩ : ∃ W, W = ((((w.alloc (.cells #[.bool sx, .slice X nx cx, .bool tx, .slice P mx dx] 41)).alloc (.cells #[.bool sy, .slice Y ny cy, .bool ty, .slice Q my dy] 41)).alloc (.cells #[.int .i64 n, .int .i64 d] 42)).alloc (.cells #[.bool sx, .slice X nx cx, .bool tx, .slice P mx dx, .bool sy, .slice Y ny cy, .bool ty, .slice Q my dy] 41)) := ⟨_, rfl⟩
  have hbW : Below w.heap.size w W := by rw [hW]; exact (by repeat (first | with_reducible exact Below.refl _ _ | with_reducible assumption | with_reducible refine Below.drew ?_ | with_reducible refine Below.drewN ?_ _ | with_reducible refine Below.alloc2 ?_ _ | with_reducible refine Below.alloc ?_ (by first | omega | (simp <;> omega)) _ | with_reducible refine Below.setCell ?_ (by first | omega | (simp <;> omega)) _ | with_reducible refine Below.step2 (by with_reducible assumption) ?_ | with_reducible refine Below.step (by with_reducible assumption) ?_ (by first | omega | (simp <;> omega))))
  have kx : Bk W w.heap.size 41 #[.bool sx, .slice X nx cx, .bool tx, .slice P mx dx] := by rw [hW]; exact (by repeat (first | with_reducible assumption | with_reducible exact Bk.at_ (by first | (simp; done) | omega) | with_reducible refine Bk.alloc ?_ _ | with_reducible refine Bk.drew ?_ | with_reducible refine Bk.drewN ?_ _ | with_reducible refine Bk.step (by with_reducible assumption) ?_ (by first | omega | (simp <;> omega))))
  have ky : Bk W (w.heap.size + 1) 41 #[.bool sy, .slice Y ny cy, .bool ty, .slice Q my dy] := by rw [hW]; exact (by repeat (first | with_reducible assumption | with_reducible exact Bk.at_ (by first | (simp; done) | omega) | with_reducible refine Bk.alloc ?_ _ | with_reducible refine Bk.drew ?_ | with_reducible refine Bk.drewN ?_ _ | with_reducible refine Bk.step (by with_reducible assumption) ?_ (by first | omega | (simp <;> omega))))
  have kz : Bk W (w.heap.size + 2) 42 #[.int .i64 n, .int .i64 d] := by rw [hW]; exact (by repeat (first | with_reducible assumption | with_reducible exact Bk.at_ (by first | (simp; done) | omega) | with_reducible refine Bk.alloc ?_ _ | with_reducible refine Bk.drew ?_ | with_reducible refine Bk.drewN ?_ _ | with_reducible refine Bk.step (by with_reducible assumption) ?_ (by first | omega | (simp <;> omega))))
  rw [← hW]
  have ozW : w.heap.size + 3 ≤ W.heap.size := by rw [hW]; simp
  clear hW
  have ax := kx.quad.1
  have ay := ky.quad.1
  have az := kz.duo
  have ox := kx.lt
  have oy := ky.lt
  have oz := kz.lt
  have HR := Lib.hid hR
  have HU := Lib.hid hU
  clear hR hU
  go_upto_region 5 with (first
    | (go_at_call 25; go_loud (with_reducible refine (ratioU HR.out _ hn1 hn2 hd1 hd2).mono ?_; rintro e wr ⟨hbwr, sa, Aa, na, ca, sb, Ab, nb, cb, rfl, ia, ib⟩; have qx : Bk wr w.heap.size 41 #[.bool sx, .slice X nx cx, .bool tx, .slice P mx dx] := (by repeat (first | with_reducible assumption | with_reducible exact Bk.at_ (by first | (simp; done) | omega) | with_reducible refine Bk.alloc ?_ _ | with_reducible refine Bk.drew ?_ | with_reducible refine Bk.drewN ?_ _ | with_reducible refine Bk.step (by with_reducible assumption) ?_ (by first | omega | (simp <;> omega)))); have qy : Bk wr (w.heap.size + 1) 41 #[.bool sy, .slice Y ny cy, .bool ty, .slice Q my dy] := (by repeat (first | with_reducible assumption | with_reducible exact Bk.at_ (by first | (simp; done) | omega) | with_reducible refine Bk.alloc ?_ _ | with_reducible refine Bk.drew ?_ | with_reducible refine Bk.drewN ?_ _ | with_reducible refine Bk.step (by with_reducible assumption) ?_ (by first | omega | (simp <;> omega)))); have qz : Bk wr (w.heap.size + 2) 42 #[.int .i64 n, .int .i64 d] := (by repeat (first | with_reducible assumption | with_reducible exact Bk.at_ (by first | (simp; done) | omega) | with_reducible refine Bk.alloc ?_ _ | with_reducible refine Bk.drew ?_ | with_reducible refine Bk.drewN ?_ _ | with_reducible refine Bk.step (by with_reducible assumption) ?_ (by first | omega | (simp <;> omega)))); clear kx ky kz ax ay az ox oy oz; have kx := qx; have ky := qy; have kz := qz; clear qx qy qz; have ox := kx.lt; have oy := ky.lt; have oz := kz.lt; have ax := kx.quad.1; have ay := ky.quad.1; have az := kz.duo; have ozwr := hbwr.size; (try simp at ozwr)))
    | (go_at_call 26; go_loud (with_reducible refine (rratioU HR.out _ hn1 hn2 hd1 hd2).mono ?_; rintro e ws ⟨hbws, sc, Ac, nc, cc, sd, Ad, nd, cd, rfl, ic, id⟩; have qx : Bk ws w.heap.size 41 #[.bool sx, .slice X nx cx, .bool tx, .slice P mx dx] := (by repeat (first | with_reducible assumption | with_reducible exact Bk.at_ (by first | (simp; done) | omega) | with_reducible refine Bk.alloc ?_ _ | with_reducible refine Bk.drew ?_ | with_reducible refine Bk.drewN ?_ _ | with_reducible refine Bk.step (by with_reducible assumption) ?_ (by first | omega | (simp <;> omega)))); have qy : Bk ws (w.heap.size + 1) 41 #[.bool sy, .slice Y ny cy, .bool ty, .slice Q my dy] := (by repeat (first | with_reducible assumption | with_reducible exact Bk.at_ (by first | (simp; done) | omega) | with_reducible refine Bk.alloc ?_ _ | with_reducible refine Bk.drew ?_ | with_reducible refine Bk.drewN ?_ _ | with_reducible refine Bk.step (by with_reducible assumption) ?_ (by first | omega | (simp <;> omega)))); have qz : Bk ws (w.heap.size + 2) 42 #[.int .i64 n, .int .i64 d] := (by repeat (first | with_reducible assumption | with_reducible exact Bk.at_ (by first | (simp; done) | omega) | with_reducible refine Bk.alloc ?_ _ | with_reducible refine Bk.drew ?_ | with_reducible refine Bk.drewN ?_ _ | with_reducible refine Bk.step (by with_reducible assumption) ?_ (by first | omega | (simp <;> omega)))); clear kx ky kz ax ay az ox oy oz; have kx := qx; have ky := qy; have kz := qz; clear qx qy qz; have ox := kx.lt; have oy := ky.lt; have oz := kz.lt; have ax := kx.quad.1; have ay := ky.quad.1; have az := kz.duo; have ozws := hbws.size; (try simp at ozws); have ka : Bk ws wr.heap.size 41 #[.bool sa, .slice Aa na ca, .bool sb, .slice Ab nb cb] := (by repeat (first | with_reducible assumption | with_reducible exact Bk.at_ (by first | (simp; done) | omega) | with_reducible refine Bk.alloc ?_ _ | with_reducible refine Bk.drew ?_ | with_reducible refine Bk.drewN ?_ _ | with_reducible refine Bk.step (by with_reducible assumption) ?_ (by first | omega | (simp <;> omega)))))))
  obtain ⟨V, hV⟩ : ∃ V, V = (ws.alloc (.cells #[.bool sc, .slice Ac nc cc, .bool sd, .slice Ad nd cd] 41)) := ⟨_, rfl⟩
  have hbV : Below ws.heap.size ws V := by rw [hV]; exact (by repeat (first | with_reducible exact Below.refl _ _ | with_reducible assumption | with_reducible refine Below.drew ?_ | with_reducible refine Below.drewN ?_ _ | with_reducible refine Below.alloc2 ?_ _ | with_reducible refine Below.alloc ?_ (by first | omega | (simp <;> omega)) _ | with_reducible refine Below.setCell ?_ (by first | omega | (simp <;> omega)) _ | with_reducible refine Below.step2 (by with_reducible assumption) ?_ | with_reducible refine Below.step (by with_reducible assumption) ?_ (by first | omega | (simp <;> omega))))
  have kb : Bk V ws.heap.size 41 #[.bool sc, .slice Ac nc cc, .bool sd, .slice Ad nd cd] := by rw [hV]; exact Bk.alloc_ _ _ _
  have hbwV : Below w.heap.size w V := by rw [hV]; exact (by repeat (first | with_reducible exact Below.refl _ _ | with_reducible assumption | with_reducible refine Below.drew ?_ | with_reducible refine Below.drewN ?_ _ | with_reducible refine Below.alloc2 ?_ _ | with_reducible refine Below.alloc ?_ (by first | omega | (simp <;> omega)) _ | with_reducible refine Below.setCell ?_ (by first | omega | (simp <;> omega)) _ | with_reducible refine Below.step2 (by with_reducible assumption) ?_ | with_reducible refine Below.step (by with_reducible assumption) ?_ (by first | omega | (simp <;> omega))))
  have ja := IntH.later ia (show Below wr.heap.size wr V by rw [hV]; exact (by repeat (first | with_reducible exact Below.refl _ _ | with_reducible assumption | with_reducible refine Below.drew ?_ | with_reducible refine Below.drewN ?_ _ | with_reducible refine Below.alloc2 ?_ _ | with_reducible refine Below.alloc ?_ (by first | omega | (simp <;> omega)) _ | with_reducible refine Below.setCell ?_ (by first | omega | (simp <;> omega)) _ | with_reducible refine Below.step2 (by with_reducible assumption) ?_ | with_reducible refine Below.step (by with_reducible assumption) ?_ (by first | omega | (simp <;> omega)))))
  have jb := IntH.later ib (show Below wr.heap.size wr V by rw [hV]; exact (by repeat (first | with_reducible exact Below.refl _ _ | with_reducible assumption | with_reducible refine Below.drew ?_ | with_reducible refine Below.drewN ?_ _ | with_reducible refine Below.alloc2 ?_ _ | with_reducible refine Below.alloc ?_ (by first | omega | (simp <;> omega)) _ | with_reducible refine Below.setCell ?_ (by first | omega | (simp <;> omega)) _ | with_reducible refine Below.step2 (by with_reducible assumption) ?_ | with_reducible refine Below.step (by with_reducible assumption) ?_ (by first | omega | (simp <;> omega)))))
  have jc := IntH.later ic (show Below ws.heap.size ws V from hbV)
  have jd := IntH.later id (show Below ws.heap.size ws V from hbV)
  have jx : Bk V w.heap.size 41 #[.bool sx, .slice X nx cx, .bool tx, .slice P mx dx] := kx.below hbV kx.lt
  have jy : Bk V (w.heap.size + 1) 41 #[.bool sy, .slice Y ny cy, .bool ty, .slice Q my dy] := ky.below hbV ky.lt
  have jz : Bk V (w.heap.size + 2) 42 #[.int .i64 n, .int .i64 d] := kz.below hbV kz.lt
  have jk : Bk V wr.heap.size 41 #[.bool sa, .slice Aa na ca, .bool sb, .slice Ab nb cb] := ka.below hbV ka.lt
  rw [← hV]
  clear hV ia ib ic id kx ky kz ka ax ay az ox oy oz
  have kx := jx
  have ky := jy
  have kz := jz
  have ka := jk
  clear jx jy jz jk
  have ax := kx.quad.1
  have ay := ky.quad.1
  have az := kz.duo
  have aa := ka.quad.1
  have ab := kb.quad.1
  have ox := kx.lt
  have oy := ky.lt
  have oz := kz.lt
  have oa := ka.lt
  have ob := kb.lt
  go_region_held3 (fun w' => (w'.cell? ⟨w.heap.size, 0, none⟩ = some (.bool sx) ∧ w'.cell? ⟨w.heap.size, 1, none⟩ = some (.slice X nx cx) ∧ w'.cell? ⟨w.heap.size, 2, none⟩ = some (.bool tx) ∧ w'.cell? ⟨w.heap.size, 3, none⟩ = some (.slice P mx dx)) ∧ (w'.cell? ⟨w.heap.size + 1, 0, none⟩ = some (.bool sy) ∧ w'.cell? ⟨w.heap.size + 1, 1, none⟩ = some (.slice Y ny cy) ∧ w'.cell? ⟨w.heap.size + 1, 2, none⟩ = some (.bool ty) ∧ w'.cell? ⟨w.heap.size + 1, 3, none⟩ = some (.slice Q my dy)) ∧ (w'.cell? ⟨wr.heap.size, 0, none⟩ = some (.bool sa) ∧ w'.cell? ⟨wr.heap.size, 1, none⟩ = some (.slice Aa na ca) ∧ w'.cell? ⟨wr.heap.size, 2, none⟩ = some (.bool sb) ∧ w'.cell? ⟨wr.heap.size, 3, none⟩ = some (.slice Ab nb cb)) ∧ (w'.cell? ⟨ws.heap.size, 0, none⟩ = some (.bool sc) ∧ w'.cell? ⟨ws.heap.size, 1, none⟩ = some (.slice Ac nc cc) ∧ w'.cell? ⟨ws.heap.size, 2, none⟩ = some (.bool sd) ∧ w'.cell? ⟨ws.heap.size, 3, none⟩ = some (.slice Ad nd cd)) ∧ w'.cell? ⟨w.heap.size + 2, 0, none⟩ = some (.int .i64 n)) (go_keep) (((first
    | (go_at_call 28; go_loud (with_reducible refine (wholeH n _ hn1 hn2).mono ?_; rintro e wn ⟨hbwn, sn, An, nn, cn, sm, Am, nm, cm, rfl, hn⟩))
    | (go_at_call 29; go_loud (with_reducible refine (rwholeH n _ hn1 hn2).mono ?_; rintro e wn ⟨hbwn, sn, An, nn, cn, sm, Am, nm, cm, rfl, hn⟩))
    | (go_at_call 27; with_reducible refine (sameRH (by assumption) (by assumption) ?_ ?_ rfl).mono ?_; (focus (exact (by repeat (first | with_reducible exact Below.refl _ _ | with_reducible assumption | with_reducible refine Below.drew ?_ | with_reducible refine Below.drewN ?_ _ | with_reducible refine Below.alloc2 ?_ _ | with_reducible refine Below.alloc ?_ (by first | omega | (simp <;> omega)) _ | with_reducible refine Below.setCell ?_ (by first | omega | (simp <;> omega)) _ | with_reducible refine Below.step2 (by with_reducible assumption) ?_ | with_reducible refine Below.step (by with_reducible assumption) ?_ (by first | omega | (simp <;> omega)))))); (focus (exact (by repeat (first | with_reducible exact Below.refl _ _ | with_reducible assumption | with_reducible refine Below.drew ?_ | with_reducible refine Below.drewN ?_ _ | with_reducible refine Below.alloc2 ?_ _ | with_reducible refine Below.alloc ?_ (by first | omega | (simp <;> omega)) _ | with_reducible refine Below.setCell ?_ (by first | omega | (simp <;> omega)) _ | with_reducible refine Below.step2 (by with_reducible assumption) ?_ | with_reducible refine Below.step (by with_reducible assumption) ?_ (by first | omega | (simp <;> omega)))))); rintro e wn ⟨hbwn, rfl⟩)
    | (go_at_call 27; with_reducible refine (samePH ja jb jc jd ?_ ?_ ?_ ?_ rfl rfl).mono ?_; (focus (exact (by repeat (first | with_reducible exact Below.refl _ _ | with_reducible assumption | with_reducible refine Below.drew ?_ | with_reducible refine Below.drewN ?_ _ | with_reducible refine Below.alloc2 ?_ _ | with_reducible refine Below.alloc ?_ (by first | omega | (simp <;> omega)) _ | with_reducible refine Below.setCell ?_ (by first | omega | (simp <;> omega)) _ | with_reducible refine Below.step2 (by with_reducible assumption) ?_ | with_reducible refine Below.step (by with_reducible assumption) ?_ (by first | omega | (simp <;> omega)))))); (focus (exact (by repeat (first | with_reducible exact Below.refl _ _ | with_reducible assumption | with_reducible refine Below.drew ?_ | with_reducible refine Below.drewN ?_ _ | with_reducible refine Below.alloc2 ?_ _ | with_reducible refine Below.alloc ?_ (by first | omega | (simp <;> omega)) _ | with_reducible refine Below.setCell ?_ (by first | omega | (simp <;> omega)) _ | with_reducible refine Below.step2 (by with_reducible assumption) ?_ | with_reducible refine Below.step (by with_reducible assumption) ?_ (by first | omega | (simp <;> omega)))))); (focus (exact (by repeat (first | with_reducible exact Below.refl _ _ | with_reducible assumption | with_reducible refine Below.drew ?_ | with_reducible refine Below.drewN ?_ _ | with_reducible refine Below.alloc2 ?_ _ | with_reducible refine Below.alloc ?_ (by first | omega | (simp <;> omega)) _ | with_reducible refine Below.setCell ?_ (by first | omega | (simp <;> omega)) _ | with_reducible refine Below.step2 (by with_reducible assumption) ?_ | with_reducible refine Below.step (by with_reducible assumption) ?_ (by first | omega | (simp <;> omega)))))); (focus (exact (by repeat (first | with_reducible exact Below.refl _ _ | with_reducible assumption | with_reducible refine Below.drew ?_ | with_reducible refine Below.drewN ?_ _ | with_reducible refine Below.alloc2 ?_ _ | with_reducible refine Below.alloc ?_ (by first | omega | (simp <;> omega)) _ | with_reducible refine Below.setCell ?_ (by first | omega | (simp <;> omega)) _ | with_reducible refine Below.step2 (by with_reducible assumption) ?_ | with_reducible refine Below.step (by with_reducible assumption) ?_ (by first | omega | (simp <;> omega)))))); rintro e wn ⟨hbwn, rfl⟩)
    | (go_at_call 30; with_reducible refine (normalH ix ?_ (by omega)).mono ?_; (focus (exact (by repeat (first | with_reducible exact Below.refl _ _ | with_reducible assumption | with_reducible refine Below.drew ?_ | with_reducible refine Below.drewN ?_ _ | with_reducible refine Below.alloc2 ?_ _ | with_reducible refine Below.alloc ?_ (by first | omega | (simp <;> omega)) _ | with_reducible refine Below.setCell ?_ (by first | omega | (simp <;> omega)) _ | with_reducible refine Below.step2 (by with_reducible assumption) ?_ | with_reducible refine Below.step (by with_reducible assumption) ?_ (by first | omega | (simp <;> omega)))))); rintro e wn ⟨hbwn, sn, An, nn, cn, sm, Am, nm, cm, rfl, hn⟩)
    | (go_at_call 31; with_reducible refine (rnormT ix ?_ (by omega) (by omega)).mono ?_; (focus (exact (by repeat (first | with_reducible exact Below.refl _ _ | with_reducible assumption | with_reducible refine Below.drew ?_ | with_reducible refine Below.drewN ?_ _ | with_reducible refine Below.alloc2 ?_ _ | with_reducible refine Below.alloc ?_ (by first | omega | (simp <;> omega)) _ | with_reducible refine Below.setCell ?_ (by first | omega | (simp <;> omega)) _ | with_reducible refine Below.step2 (by with_reducible assumption) ?_ | with_reducible refine Below.step (by with_reducible assumption) ?_ (by first | omega | (simp <;> omega)))))); rintro e wn ⟨hbwn, sn, An, nn, cn, sm, Am, nm, cm, rfl, hn⟩)
    | (go_at_call 32; with_reducible refine (addH ix iy ?_ ?_ (by omega) (by omega)).mono ?_; (focus (exact (by repeat (first | with_reducible exact Below.refl _ _ | with_reducible assumption | with_reducible refine Below.drew ?_ | with_reducible refine Below.drewN ?_ _ | with_reducible refine Below.alloc2 ?_ _ | with_reducible refine Below.alloc ?_ (by first | omega | (simp <;> omega)) _ | with_reducible refine Below.setCell ?_ (by first | omega | (simp <;> omega)) _ | with_reducible refine Below.step2 (by with_reducible assumption) ?_ | with_reducible refine Below.step (by with_reducible assumption) ?_ (by first | omega | (simp <;> omega)))))); (focus (exact (by repeat (first | with_reducible exact Below.refl _ _ | with_reducible assumption | with_reducible refine Below.drew ?_ | with_reducible refine Below.drewN ?_ _ | with_reducible refine Below.alloc2 ?_ _ | with_reducible refine Below.alloc ?_ (by first | omega | (simp <;> omega)) _ | with_reducible refine Below.setCell ?_ (by first | omega | (simp <;> omega)) _ | with_reducible refine Below.step2 (by with_reducible assumption) ?_ | with_reducible refine Below.step (by with_reducible assumption) ?_ (by first | omega | (simp <;> omega)))))); rintro e wn ⟨hbwn, sn, An, nn, cn, sm, Am, nm, cm, rfl, hn⟩)
    | (go_at_call 33; with_reducible refine (raddH ix iy ?_ ?_ (by omega) (by omega) (by omega)).mono ?_; (focus (exact (by repeat (first | with_reducible exact Below.refl _ _ | with_reducible assumption | with_reducible refine Below.drew ?_ | with_reducible refine Below.drewN ?_ _ | with_reducible refine Below.alloc2 ?_ _ | with_reducible refine Below.alloc ?_ (by first | omega | (simp <;> omega)) _ | with_reducible refine Below.setCell ?_ (by first | omega | (simp <;> omega)) _ | with_reducible refine Below.step2 (by with_reducible assumption) ?_ | with_reducible refine Below.step (by with_reducible assumption) ?_ (by first | omega | (simp <;> omega)))))); (focus (exact (by repeat (first | with_reducible exact Below.refl _ _ | with_reducible assumption | with_reducible refine Below.drew ?_ | with_reducible refine Below.drewN ?_ _ | with_reducible refine Below.alloc2 ?_ _ | with_reducible refine Below.alloc ?_ (by first | omega | (simp <;> omega)) _ | with_reducible refine Below.setCell ?_ (by first | omega | (simp <;> omega)) _ | with_reducible refine Below.step2 (by with_reducible assumption) ?_ | with_reducible refine Below.step (by with_reducible assumption) ?_ (by first | omega | (simp <;> omega)))))); rintro e wn ⟨hbwn, sn, An, nn, cn, sm, Am, nm, cm, rfl, hn⟩)
    | (go_at_call 34; with_reducible refine (subH ix iy ?_ ?_ (by omega) (by omega)).mono ?_; (focus (exact (by repeat (first | with_reducible exact Below.refl _ _ | with_reducible assumption | with_reducible refine Below.drew ?_ | with_reducible refine Below.drewN ?_ _ | with_reducible refine Below.alloc2 ?_ _ | with_reducible refine Below.alloc ?_ (by first | omega | (simp <;> omega)) _ | with_reducible refine Below.setCell ?_ (by first | omega | (simp <;> omega)) _ | with_reducible refine Below.step2 (by with_reducible assumption) ?_ | with_reducible refine Below.step (by with_reducible assumption) ?_ (by first | omega | (simp <;> omega)))))); (focus (exact (by repeat (first | with_reducible exact Below.refl _ _ | with_reducible assumption | with_reducible refine Below.drew ?_ | with_reducible refine Below.drewN ?_ _ | with_reducible refine Below.alloc2 ?_ _ | with_reducible refine Below.alloc ?_ (by first | omega | (simp <;> omega)) _ | with_reducible refine Below.setCell ?_ (by first | omega | (simp <;> omega)) _ | with_reducible refine Below.step2 (by with_reducible assumption) ?_ | with_reducible refine Below.step (by with_reducible assumption) ?_ (by first | omega | (simp <;> omega)))))); rintro e wn ⟨hbwn, sn, An, nn, cn, sm, Am, nm, cm, rfl, hn⟩)
    | (go_at_call 35; with_reducible refine (rsubH ix iy ?_ ?_ (by omega) (by omega) (by omega)).mono ?_; (focus (exact (by repeat (first | with_reducible exact Below.refl _ _ | with_reducible assumption | with_reducible refine Below.drew ?_ | with_reducible refine Below.drewN ?_ _ | with_reducible refine Below.alloc2 ?_ _ | with_reducible refine Below.alloc ?_ (by first | omega | (simp <;> omega)) _ | with_reducible refine Below.setCell ?_ (by first | omega | (simp <;> omega)) _ | with_reducible refine Below.step2 (by with_reducible assumption) ?_ | with_reducible refine Below.step (by with_reducible assumption) ?_ (by first | omega | (simp <;> omega)))))); (focus (exact (by repeat (first | with_reducible exact Below.refl _ _ | with_reducible assumption | with_reducible refine Below.drew ?_ | with_reducible refine Below.drewN ?_ _ | with_reducible refine Below.alloc2 ?_ _ | with_reducible refine Below.alloc ?_ (by first | omega | (simp <;> omega)) _ | with_reducible refine Below.setCell ?_ (by first | omega | (simp <;> omega)) _ | with_reducible refine Below.step2 (by with_reducible assumption) ?_ | with_reducible refine Below.step (by with_reducible assumption) ?_ (by first | omega | (simp <;> omega)))))); rintro e wn ⟨hbwn, sn, An, nn, cn, sm, Am, nm, cm, rfl, hn⟩)
    | (go_at_call 36; with_reducible refine (mulH ix iy ?_ ?_ (by omega) (by omega)).mono ?_; (focus (exact (by repeat (first | with_reducible exact Below.refl _ _ | with_reducible assumption | with_reducible refine Below.drew ?_ | with_reducible refine Below.drewN ?_ _ | with_reducible refine Below.alloc2 ?_ _ | with_reducible refine Below.alloc ?_ (by first | omega | (simp <;> omega)) _ | with_reducible refine Below.setCell ?_ (by first | omega | (simp <;> omega)) _ | with_reducible refine Below.step2 (by with_reducible assumption) ?_ | with_reducible refine Below.step (by with_reducible assumption) ?_ (by first | omega | (simp <;> omega)))))); (focus (exact (by repeat (first | with_reducible exact Below.refl _ _ | with_reducible assumption | with_reducible refine Below.drew ?_ | with_reducible refine Below.drewN ?_ _ | with_reducible refine Below.alloc2 ?_ _ | with_reducible refine Below.alloc ?_ (by first | omega | (simp <;> omega)) _ | with_reducible refine Below.setCell ?_ (by first | omega | (simp <;> omega)) _ | with_reducible refine Below.step2 (by with_reducible assumption) ?_ | with_reducible refine Below.step (by with_reducible assumption) ?_ (by first | omega | (simp <;> omega)))))); rintro e wn ⟨hbwn, sn, An, nn, cn, sm, Am, nm, cm, rfl, hn⟩)
    | (go_at_call 37; with_reducible refine (rmulH ix iy ?_ ?_ (by omega) (by omega) (by omega)).mono ?_; (focus (exact (by repeat (first | with_reducible exact Below.refl _ _ | with_reducible assumption | with_reducible refine Below.drew ?_ | with_reducible refine Below.drewN ?_ _ | with_reducible refine Below.alloc2 ?_ _ | with_reducible refine Below.alloc ?_ (by first | omega | (simp <;> omega)) _ | with_reducible refine Below.setCell ?_ (by first | omega | (simp <;> omega)) _ | with_reducible refine Below.step2 (by with_reducible assumption) ?_ | with_reducible refine Below.step (by with_reducible assumption) ?_ (by first | omega | (simp <;> omega)))))); (focus (exact (by repeat (first | with_reducible exact Below.refl _ _ | with_reducible assumption | with_reducible refine Below.drew ?_ | with_reducible refine Below.drewN ?_ _ | with_reducible refine Below.alloc2 ?_ _ | with_reducible refine Below.alloc ?_ (by first | omega | (simp <;> omega)) _ | with_reducible refine Below.setCell ?_ (by first | omega | (simp <;> omega)) _ | with_reducible refine Below.step2 (by with_reducible assumption) ?_ | with_reducible refine Below.step (by with_reducible assumption) ?_ (by first | omega | (simp <;> omega)))))); rintro e wn ⟨hbwn, sn, An, nn, cn, sm, Am, nm, cm, rfl, hn⟩)); have qx : Bk wn w.heap.size 41 #[.bool sx, .slice X nx cx, .bool tx, .slice P mx dx] := (by repeat (first | with_reducible assumption | with_reducible exact Bk.at_ (by first | (simp; done) | omega) | with_reducible refine Bk.alloc ?_ _ | with_reducible refine Bk.drew ?_ | with_reducible refine Bk.drewN ?_ _ | with_reducible refine Bk.step (by with_reducible assumption) ?_ (by first | omega | (simp <;> omega)))); have qy : Bk wn (w.heap.size + 1) 41 #[.bool sy, .slice Y ny cy, .bool ty, .slice Q my dy] := (by repeat (first | with_reducible assumption | with_reducible exact Bk.at_ (by first | (simp; done) | omega) | with_reducible refine Bk.alloc ?_ _ | with_reducible refine Bk.drew ?_ | with_reducible refine Bk.drewN ?_ _ | with_reducible refine Bk.step (by with_reducible assumption) ?_ (by first | omega | (simp <;> omega)))); have qz : Bk wn (w.heap.size + 2) 42 #[.int .i64 n, .int .i64 d] := (by repeat (first | with_reducible assumption | with_reducible exact Bk.at_ (by first | (simp; done) | omega) | with_reducible refine Bk.alloc ?_ _ | with_reducible refine Bk.drew ?_ | with_reducible refine Bk.drewN ?_ _ | with_reducible refine Bk.step (by with_reducible assumption) ?_ (by first | omega | (simp <;> omega)))); clear kx ky kz ax ay az ox oy oz; have kx := qx; have ky := qy; have kz := qz; clear qx qy qz; have ox := kx.lt; have oy := ky.lt; have oz := kz.lt; have ax := kx.quad.1; have ay := ky.quad.1; have az := kz.duo; have ozwn := hbwn.size; (try simp at ozwn); have qa : Bk wn wr.heap.size 41 #[.bool sa, .slice Aa na ca, .bool sb, .slice Ab nb cb] := (by repeat (first | with_reducible assumption | with_reducible exact Bk.at_ (by first | (simp; done) | omega) | with_reducible refine Bk.alloc ?_ _ | with_reducible refine Bk.drew ?_ | with_reducible refine Bk.drewN ?_ _ | with_reducible refine Bk.step (by with_reducible assumption) ?_ (by first | omega | (simp <;> omega)))); have qb : Bk wn ws.heap.size 41 #[.bool sc, .slice Ac nc cc, .bool sd, .slice Ad nd cd] := (by repeat (first | with_reducible assumption | with_reducible exact Bk.at_ (by first | (simp; done) | omega) | with_reducible refine Bk.alloc ?_ _ | with_reducible refine Bk.drew ?_ | with_reducible refine Bk.drewN ?_ _ | with_reducible refine Bk.step (by with_reducible assumption) ?_ (by first | omega | (simp <;> omega)))); clear ka kb aa ab oa ob; have ka := qa; have kb := qb; clear qa qb; have oa := ka.lt; have ob := kb.lt; have aa := ka.quad.1; have ab := kb.quad.1))
  obtain ⟨W5, hW5⟩ : ∃ x, x = wn := ⟨_, rfl⟩
  subst hW5
  have hb5 : Below w.heap.size w W5 := (by repeat (first | with_reducible exact Below.refl _ _ | with_reducible assumption | with_reducible refine Below.drew ?_ | with_reducible refine Below.drewN ?_ _ | with_reducible refine Below.alloc2 ?_ _ | with_reducible refine Below.alloc ?_ (by first | omega | (simp <;> omega)) _ | with_reducible refine Below.setCell ?_ (by first | omega | (simp <;> omega)) _ | with_reducible refine Below.step2 (by with_reducible assumption) ?_ | with_reducible refine Below.step (by with_reducible assumption) ?_ (by first | omega | (simp <;> omega))))
  have HB5 := Lib.hid hb5
  have o5 := hb5.size
  clear hb5 ka kb aa ab oa ob
  go_upto_region 9 with (first
    | (go_at_call 38; go_loud (with_reducible refine (quoU HU.out ix iy HB5.out HB5.out).mono ?_; rintro e wd ⟨hbwd, sq, Aq, nq, cq, tq, Bq, mq, dq, rfl, iq, it⟩; have qx : Bk wd w.heap.size 41 #[.bool sx, .slice X nx cx, .bool tx, .slice P mx dx] := (by repeat (first | with_reducible assumption | with_reducible exact Bk.at_ (by first | (simp; done) | omega) | with_reducible refine Bk.alloc ?_ _ | with_reducible refine Bk.drew ?_ | with_reducible refine Bk.drewN ?_ _ | with_reducible refine Bk.step (by with_reducible assumption) ?_ (by first | omega | (simp <;> omega)))); have qy : Bk wd (w.heap.size + 1) 41 #[.bool sy, .slice Y ny cy, .bool ty, .slice Q my dy] := (by repeat (first | with_reducible assumption | with_reducible exact Bk.at_ (by first | (simp; done) | omega) | with_reducible refine Bk.alloc ?_ _ | with_reducible refine Bk.drew ?_ | with_reducible refine Bk.drewN ?_ _ | with_reducible refine Bk.step (by with_reducible assumption) ?_ (by first | omega | (simp <;> omega)))); have qz : Bk wd (w.heap.size + 2) 42 #[.int .i64 n, .int .i64 d] := (by repeat (first | with_reducible assumption | with_reducible exact Bk.at_ (by first | (simp; done) | omega) | with_reducible refine Bk.alloc ?_ _ | with_reducible refine Bk.drew ?_ | with_reducible refine Bk.drewN ?_ _ | with_reducible refine Bk.step (by with_reducible assumption) ?_ (by first | omega | (simp <;> omega)))); clear kx ky kz ax ay az ox oy oz; have kx := qx; have ky := qy; have kz := qz; clear qx qy qz; have ox := kx.lt; have oy := ky.lt; have oz := kz.lt; have ax := kx.quad.1; have ay := ky.quad.1; have az := kz.duo; have ozwd := hbwd.size; (try simp at ozwd); have HBD := Lib.hid (below_to HB5.out hbwd HB5.out.size); have HIQ := Lib.hid (And.intro iq it); have HBD0 := Lib.hid hbwd; clear hbwd iq it))
    | (go_at_call 39; go_loud (with_reducible refine (rquoU HU.out ix iy ?_ ?_).mono ?_; (focus (exact HBD.out.alloc HBD.out.size _)); (focus (exact HBD.out.alloc HBD.out.size _)); rintro e we ⟨hbwe, sp, Ap, np, cp, tp, Bp, mp, dp, rfl, ip, iu⟩; have qx : Bk we w.heap.size 41 #[.bool sx, .slice X nx cx, .bool tx, .slice P mx dx] := (by repeat (first | with_reducible assumption | with_reducible exact Bk.at_ (by first | (simp; done) | omega) | with_reducible refine Bk.alloc ?_ _ | with_reducible refine Bk.drew ?_ | with_reducible refine Bk.drewN ?_ _ | with_reducible refine Bk.step (by with_reducible assumption) ?_ (by first | omega | (simp <;> omega)))); have qy : Bk we (w.heap.size + 1) 41 #[.bool sy, .slice Y ny cy, .bool ty, .slice Q my dy] := (by repeat (first | with_reducible assumption | with_reducible exact Bk.at_ (by first | (simp; done) | omega) | with_reducible refine Bk.alloc ?_ _ | with_reducible refine Bk.drew ?_ | with_reducible refine Bk.drewN ?_ _ | with_reducible refine Bk.step (by with_reducible assumption) ?_ (by first | omega | (simp <;> omega)))); have qz : Bk we (w.heap.size + 2) 42 #[.int .i64 n, .int .i64 d] := (by repeat (first | with_reducible assumption | with_reducible exact Bk.at_ (by first | (simp; done) | omega) | with_reducible refine Bk.alloc ?_ _ | with_reducible refine Bk.drew ?_ | with_reducible refine Bk.drewN ?_ _ | with_reducible refine Bk.step (by with_reducible assumption) ?_ (by first | omega | (simp <;> omega)))); clear kx ky kz ax ay az ox oy oz; have kx := qx; have ky := qy; have kz := qz; clear qx qy qz; have ox := kx.lt; have oy := ky.lt; have oz := kz.lt; have ax := kx.quad.1; have ay := ky.quad.1; have az := kz.duo; have ozwe := hbwe.size; (try simp at ozwe); have kq : Bk we wd.heap.size 41 #[.bool sq, .slice Aq nq cq, .bool tq, .slice Bq mq dq] := (by repeat (first | with_reducible assumption | with_reducible exact Bk.at_ (by first | (simp; done) | omega) | with_reducible refine Bk.alloc ?_ _ | with_reducible refine Bk.drew ?_ | with_reducible refine Bk.drewN ?_ _ | with_reducible refine Bk.step (by with_reducible assumption) ?_ (by first | omega | (simp <;> omega)))); have HBE := Lib.hid hbwe; have HIP := Lib.hid (And.intro ip iu); clear hbwe ip iu)))
  obtain ⟨V9, hV⟩ : ∃ V, V = (we.alloc (.cells #[.bool sp, .slice Ap np cp, .bool tp, .slice Bp mp dp] 41)) := ⟨_, rfl⟩
  have hbE : Below wd.heap.size wd we := below_to ((Below.refl _ _).alloc (Nat.le_refl _) _) HBE.out (by simp)
  have hb9 : Below we.heap.size we V9 := by rw [hV]; exact (by repeat (first | with_reducible exact Below.refl _ _ | with_reducible assumption | with_reducible refine Below.drew ?_ | with_reducible refine Below.drewN ?_ _ | with_reducible refine Below.alloc2 ?_ _ | with_reducible refine Below.alloc ?_ (by first | omega | (simp <;> omega)) _ | with_reducible refine Below.setCell ?_ (by first | omega | (simp <;> omega)) _ | with_reducible refine Below.step2 (by with_reducible assumption) ?_ | with_reducible refine Below.step (by with_reducible assumption) ?_ (by first | omega | (simp <;> omega))))
  have hbd9 : Below wd.heap.size wd V9 := below_to hbE hb9 hbE.size
  have HB9 := Lib.hid (below_to HBD.out hbd9 HBD.out.size)
  have jq := IntH.later HIQ.out.1 hbd9
  have jt := IntH.later HIQ.out.2 hbd9
  have jp := IntH.later HIP.out.1 hb9
  have ju := IntH.later HIP.out.2 hb9
  have kp : Bk V9 we.heap.size 41 #[.bool sp, .slice Ap np cp, .bool tp, .slice Bp mp dp] := by rw [hV]; exact Bk.alloc_ _ _ _
  have jx : Bk V9 w.heap.size 41 #[.bool sx, .slice X nx cx, .bool tx, .slice P mx dx] := kx.below hb9 kx.lt
  have jy : Bk V9 (w.heap.size + 1) 41 #[.bool sy, .slice Y ny cy, .bool ty, .slice Q my dy] := ky.below hb9 ky.lt
  have jk : Bk V9 wd.heap.size 41 #[.bool sq, .slice Aq nq cq, .bool tq, .slice Bq mq dq] := kq.below hb9 kq.lt
  rw [← hV]
  obtain ⟨gq, hgq⟩ : ∃ g, g = wd.heap.size := ⟨_, rfl⟩
  obtain ⟨gp, hgp⟩ : ∃ g, g = we.heap.size := ⟨_, rfl⟩
  rw [← hgq] at jk ⊢
  rw [← hgp] at kp ⊢
  have KP : Hid (∀ w', Below V9.heap.size V9 w' → Bk w' w.heap.size 41 #[.bool sx, .slice X nx cx, .bool tx, .slice P mx dx] ∧ Bk w' (w.heap.size + 1) 41 #[.bool sy, .slice Y ny cy, .bool ty, .slice Q my dy] ∧ Bk w' gq 41 #[.bool sq, .slice Aq nq cq, .bool tq, .slice Bq mq dq] ∧ Bk w' gp 41 #[.bool sp, .slice Ap np cp, .bool tp, .slice Bp mp dp]) := Lib.hid fun w' hb => ⟨jx.below hb jx.lt, jy.below hb jy.lt, jk.below hb jk.lt, kp.below hb kp.lt⟩
  have HX9 := Lib.hid (ix.later HB9.out)
  have HY9 := Lib.hid (iy.later HB9.out)
  obtain ⟨b0, b1, b2, b3⟩ := jx.quad.1
  obtain ⟨b4, b5, b6, b7⟩ := jy.quad.1
  obtain ⟨d0, d1, d2, d3⟩ := jk.quad.1
  obtain ⟨d4, d5, d6, d7⟩ := kp.quad.1
  have HJ := Lib.hid (And.intro jq (And.intro jt (And.intro jp ju)))
  obtain ⟨C, hC⟩ : ∃ C, cmpQ x y = C := ⟨_, rfl⟩
  have HC := Lib.hid hC
  have HD : Hid (cmpI (x - y).num 0 = C) := Lib.hid (by rw [cmp_num, cmpQ_sub, hC])
  clear hC hV hgq hgp kx ky kz kq ax ay az jx jy jk kp jq jt jp ju hbE hb9 hbd9 ox oy oz
  go_region_held3 (fun w' => (w'.cell? ⟨w.heap.size, 0, none⟩ = some (.bool sx) ∧ w'.cell? ⟨w.heap.size, 1, none⟩ = some (.slice X nx cx) ∧ w'.cell? ⟨w.heap.size, 2, none⟩ = some (.bool tx) ∧ w'.cell? ⟨w.heap.size, 3, none⟩ = some (.slice P mx dx)) ∧ (w'.cell? ⟨w.heap.size + 1, 0, none⟩ = some (.bool sy) ∧ w'.cell? ⟨w.heap.size + 1, 1, none⟩ = some (.slice Y ny cy) ∧ w'.cell? ⟨w.heap.size + 1, 2, none⟩ = some (.bool ty) ∧ w'.cell? ⟨w.heap.size + 1, 3, none⟩ = some (.slice Q my dy)) ∧ (w'.cell? ⟨gq, 0, none⟩ = some (.bool sq) ∧ w'.cell? ⟨gq, 1, none⟩ = some (.slice Aq nq cq) ∧ w'.cell? ⟨gq, 2, none⟩ = some (.bool tq) ∧ w'.cell? ⟨gq, 3, none⟩ = some (.slice Bq mq dq)) ∧ (w'.cell? ⟨gp, 0, none⟩ = some (.bool sp) ∧ w'.cell? ⟨gp, 1, none⟩ = some (.slice Ap np cp) ∧ w'.cell? ⟨gp, 2, none⟩ = some (.bool tp) ∧ w'.cell? ⟨gp, 3, none⟩ = some (.slice Bp mp dp))) (go_keep) (first
    | (go_at_call 27; go_loud (with_reducible refine (samePH HJ.out.1 HJ.out.2.1 HJ.out.2.2.1 HJ.out.2.2.2 (Below.drew (Below.refl _ _)) (Below.drew (Below.refl _ _)) (Below.drew (Below.refl _ _)) (Below.drew (Below.refl _ _)) rfl rfl).mono ?_; rintro e wu ⟨hbu, rfl⟩; have hbu2 := below_drew hbu; obtain ⟨p1, p2, p3, p4⟩ := KP.out wu hbu2; obtain ⟨u0, u1, u2, u3⟩ := p1.quad.1; obtain ⟨u4, u5, u6, u7⟩ := p2.quad.1; obtain ⟨u8, u9, ua, ub⟩ := p3.quad.1; obtain ⟨uc, ud, ue, uf⟩ := p4.quad.1; have HBu := Lib.hid hbu2; clear p1 p2 p3 p4 hbu2))
    | (go_at_call 40; go_loud (with_reducible refine (cmpRH HX9.out HY9.out HBu.out HBu.out (by omega) (by omega) HC.out).mono ?_; rintro e wv ⟨hbv, rfl⟩; have hbv2 := below_to HBu.out hbv HBu.out.size; obtain ⟨p1, p2, p3, p4⟩ := KP.out wv hbv2; obtain ⟨v0, v1, v2, v3⟩ := p1.quad.1; obtain ⟨v4, v5, v6, v7⟩ := p2.quad.1; obtain ⟨v8, v9, va, vb⟩ := p3.quad.1; obtain ⟨vc, vd, ve, vf⟩ := p4.quad.1; have HBv := Lib.hid hbv2; clear p1 p2 p3 p4 hbv2))
    | (go_at_call 41; go_loud (with_reducible refine (rcmpRH HX9.out HY9.out HBv.out HBv.out (by omega) (by omega) (by omega) HD.out).mono ?_; rintro e wy ⟨hby, rfl⟩; have hby2 := below_to HBv.out hby HBv.out.size; obtain ⟨p1, p2, p3, p4⟩ := KP.out wy hby2; obtain ⟨y0, y1, y2, y3⟩ := p1.quad.1; obtain ⟨y4, y5, y6, y7⟩ := p2.quad.1; obtain ⟨y8, y9, ya, yb⟩ := p3.quad.1; obtain ⟨yc, yd, ye, yf⟩ := p4.quad.1; have HBy := Lib.hid hby2; clear p1 p2 p3 p4 hby2))
    | (go_at_call 42; go_loud (with_reducible refine (floorH HX9.out HBy.out (by omega)).mono ?_; rintro e wz ⟨F, hF1, hF2, hbz, sf, Af, nf, cf, rfl, hF⟩; have hbz2 := below_to HBy.out hbz HBy.out.size; obtain ⟨p1, p2, p3, p4⟩ := KP.out wz hbz2; obtain ⟨z0, z1, z2, z3⟩ := p1.quad.1; obtain ⟨z4, z5, z6, z7⟩ := p2.quad.1; obtain ⟨z8, z9, za, zb⟩ := p3.quad.1; obtain ⟨zc, zd, ze, zf⟩ := p4.quad.1; have HBz := Lib.hid hbz2; clear p1 p2 p3 p4 hbz2; have HF := Lib.hid hF; have HFF := Lib.hid (floor_one hF1 hF2 (floor_parts x).1 (floor_parts x).2); clear hF hF1 hF2))
    | (go_at_call 43; go_loud (with_reducible refine (rfloorH HX9.out HBz.out (by omega) (by omega)).mono ?_; rintro e wg ⟨hbg, sg', Ag, ng, cg, rfl, hG⟩; have HF2 := Lib.hid (HF.out.later hbg); have hbg2 := below_to HBz.out hbg HBz.out.size; obtain ⟨p1, p2, p3, p4⟩ := KP.out wg hbg2; obtain ⟨g0, g1, g2, g3⟩ := p1.quad.1; obtain ⟨g4, g5, g6, g7⟩ := p2.quad.1; obtain ⟨g8, g9, ga, gb⟩ := p3.quad.1; obtain ⟨gc, gd, ge, gf⟩ := p4.quad.1; have HBg := Lib.hid hbg2; clear p1 p2 p3 p4 hbg2; have HG := Lib.hid hG; clear hG))
    | (go_at_call 11; go_loud (with_reducible refine (sameH HF2.out HG.out (Below.refl _ _) (Below.refl _ _) HFF.out).mono ?_; rintro e wh ⟨hbh, rfl⟩; have hbh2 := below_to HBg.out hbh HBg.out.size; obtain ⟨p1, p2, p3, p4⟩ := KP.out wh hbh2; obtain ⟨h0, h1, h2, h3⟩ := p1.quad.1; obtain ⟨h4, h5, h6, h7⟩ := p2.quad.1; obtain ⟨h8, h9, ha, hb⟩ := p3.quad.1; obtain ⟨hc, hd, he, hf⟩ := p4.quad.1; have HBh := Lib.hid hbh2; clear p1 p2 p3 p4 hbh2))
    | (go_at_call 8; go_loud (with_reducible refine (awake_true _).mono ?_; rintro e wk ⟨hbk, rfl⟩; have hbk2 := below_to HBh.out hbk HBh.out.size; obtain ⟨p1, p2, p3, p4⟩ := KP.out wk hbk2; obtain ⟨k0, k1, k2, k3⟩ := p1.quad.1; obtain ⟨k4, k5, k6, k7⟩ := p2.quad.1; obtain ⟨k8, k9, ka, kb⟩ := p3.quad.1; obtain ⟨kc, kd, ke, kf⟩ := p4.quad.1; have HBk := Lib.hid hbk2; clear p1 p2 p3 p4 hbk2)))
  go_wp2
  go_ret
  exact ⟨below_to HB9.out HBk.out HB9.out.size, rfl⟩

end Go.Proofs.YtjdfepchjeogcaaGreat

/- From a law's contract to its statement: the part that is the same for each law. -/
namespace Go.Proofs.YtjdfepchjeogcaaGreat
open Go.ChangeShapes Go.WideShapes Go.ChangeAt Go.RowKit

theorem Tryz.own : ownKnob Tryz.prog.godebug = none := by kernel_rfl
theorem Tryz.laidOut : laidOutB Tryz.prog = true := by kernel_rfl

section
variable {H : Type} {enc : TypeId × Value → H} {P : Program}
/-- Arguments read as before, where nothing old has turned. -/
theorem trodAll_stays (hl : laidOutB P = true) {W W' : World} (hb : Below W.heap.size W W') (sp : Nat → Bool) : ∀ {ts : List TypeId} {vs : List Value} {ds : List (DataW H)} {ps : List MemPlace},
    (∀ t ∈ ts, P.readableRec t = true ∧ t < P.types.size) → DataW.TrodAll enc P W 0 (fun _ => true) true ts vs ds ps → (∀ x ∈ ps, x.block < W.heap.size) → (∀ x ∈ ps, sp x.block = true) → DataW.TrodAll enc P W' 0 sp true ts vs ds ps
  | [], [], [], _, _, h, _, _ => h
  | t :: ts, v :: vs, d :: ds, ps, hr, h, hlt, hs => by
    obtain ⟨p, q, h1, h2, rfl⟩ := h
    have ht := hr t (by simp)
    refine ⟨p, q, WideElems.Trod_stays hl ht.1 ht.2 h1 (fun x hx => hb.same (hlt x (by simp [hx]))) (fun x hx => hs x (by simp [hx])), ?_, rfl⟩
    exact trodAll_stays hl hb sp (fun t' ht' => hr t' (by simp [ht'])) h2 (fun x hx => hlt x (by simp [hx])) (fun x hx => hs x (by simp [hx]))
  | [], [], _ :: _, _, _, h, _, _ => h.elim
  | [], _ :: _, _, _, _, h, _, _ => h.elim
  | _ :: _, [], _, _, _, h, _, _ => h.elim
  | _ :: _, _ :: _, [], _, _, h, _, _ => h.elim

/-- A law whose call has made memory and turned nothing old, and told true. -/
theorem law_post {f : Func} {s : ChangeSpec} {apart fresh handsOn again : Bool} {W W' : World} {args : Array Value} {ds gs : List (DataW H)} {before : List MemPlace} {tb : TypeId}
    (hl : laidOutB P = true) (hreadB : f.params.toList.all (fun t => P.readableRec t && decide (t < P.types.size)) = true) (hrt : f.resultTypes = #[tb]) (htb : P.underlying tb = some .bool) (hv0 : s.vars = [])
    (hW : DataW.Whole enc P f.params.toList s.vars apart W args.toList ds gs before)
    (hres : (s.fn H (ds ++ gs)).results = [.lit (.bool true)]) (hargs : (s.fn H (ds ++ gs)).args = ds) (hvars : (s.fn H (ds ++ gs)).vars = [])
    (hb : Below W.heap.size W W') : s.post enc P f apart fresh handsOn again W args (.bool true) W' := by
  have hread : ∀ t ∈ f.params.toList, P.readableRec t = true ∧ t < P.types.size := fun t ht => by simpa using List.all_eq_true.1 hreadB t ht
  have hW0 := hW
  have hlt : ∀ p ∈ before, p.block < W.heap.size := fun p hp => hW.lt p hp
  have hold : ∀ p ∈ before, (fun b => decide (b < W.heap.size)) p.block = true := fun p hp => by simpa using hlt p hp
  obtain ⟨p, q, hA, hV, rfl, hz, hn⟩ := hW
  rw [hv0] at hV
  obtain ⟨rfl, rfl⟩ := trodVars_none hV
  simp only [List.append_nil] at *
  have hA' : ∀ sp : Nat → Bool, (∀ x ∈ p, sp x.block = true) → DataW.TrodAll enc P W' 0 sp true f.params.toList args.toList (s.fn H ds).args p := fun sp hs => by
    rw [hargs]
    exact trodAll_stays hl hb sp hread hA hlt hs
  have hR : ∀ (b : Nat) (sp : Nat → Bool) (hd : Bool), DataW.TrodAll enc P W' b sp hd f.resultTypes.toList ((Value.bool true).resultList f.resultTypes.size) (s.fn H ds).results [] := fun b sp hd => by
    rw [hres, hrt]
    exact trodAll_mk1 (shut_bool htb true)
  have hVs : ∀ sp : Nat → Bool, DataW.TrodVars enc P W' sp s.vars (s.fn H ds).vars [] := fun sp => by
    rw [hv0, hvars]
    rfl
  refine ⟨ds, [], p, [], p, [], hW0, by simpa using hR _ _ _, by simpa using hA' _ hold, by simpa using hVs _, World.keptBut_mono (fun x hx => ⟨hx, .inr (.inl hx)⟩) (hb.frame (· ∈ p)), fun _ => ?_⟩
  refine ⟨ok_one hrt rfl (okWide_bool_mk htb true), _, _, ([] ++ p) ++ [], ⟨[] ++ p, [], by simpa using trodAll_append (hA' _ (fun _ _ => rfl)) (hR _ _ _), by simpa using hVs _, rfl, ?_, ?_⟩, ?_⟩
  · intro b off hp
    have hin : MemPlace.cell b off ∈ p := by simpa using hp
    rw [hb.frozen (hlt _ hin)]
    exact hz b off hin
  · intro ha
    simpa using hn ha
  · intro x hx _
    simpa using hx
end

end Go.Proofs.YtjdfepchjeogcaaGreat

/- Arguments that are integers, opened. -/
namespace Go.Proofs.YtjdfepchjeogcaaGreat
open Go.Joins Go.ChangeShapes Go.WideShapes Go.RowKit Go.Deep Go.ChangeAt

theorem spot_of_cellI {w : World} {a : Addr} {u : Value} (h : w.cell? a = some u) : a = ⟨a.block, a.off, none⟩ := by
  obtain ⟨b, o, s⟩ := a
  unfold World.cell? at h
  split at h
  · split at h
    · cases h
    · rename_i hs
      cases s with
      | none => rfl
      | some x => simp at hs
  · cases h
theorem add_plainI (b o j : Nat) : (⟨b, o, none⟩ : Addr).add j = ⟨b, o + j, none⟩ := by
  unfold Addr.add
  split
  · simp [*]
  · rfl
section
variable {H : Type} {enc : TypeId × Value → H} {P : Program} {w : World}
/-- A cell that is a slice of limbs. -/
theorem open_limbs {t e : TypeId} {fuel : Nat} {u : Value} {x : DataW H × List MemPlace} (ht : P.underlying t = some (.slice e)) (he : P.underlying e = some (.int .u32)) (hc : P.cellsOf e = 1)
    (h : DataW.trod enc P w 0 (fun _ => true) true fuel t [u] = some x) : ∃ (A : Option Addr) (n c : Nat) (l : List Nat), u = .slice A n c ∧ Lim w w.heap.size A n c l := by
  rcases open_ints ht he hc h with ⟨hcs, _⟩ | ⟨a, len, cap, zs, hcs, _, hl, hm, hz, _, hi, hwf⟩
  · have e : u = .slice none 0 0 := by simpa using hcs
    exact ⟨none, 0, 0, [], e, Lim.nil_ _ _⟩
  · have e : u = .slice (some a) len cap := by simpa using hcs
    simp only [if_true] at hz
    have hnat : ∀ z ∈ zs, 0 ≤ z ∧ z < 4294967296 := fun z hzz => by
      have := hwf z hzz
      simp only [Lit.wf, Bool.and_eq_true, decide_eq_true_eq] at this
      have h1 : IntKind.min .u32 = 0 := by decide
      have h2 : IntKind.max .u32 = 4294967295 := by decide
      omega
    refine ⟨some a, len, cap, (zs.take len).map Int.toNat, e, ⟨⟨by rw [u32s_length, List.length_map, List.length_take]; omega, hl, by simpa [maxLen] using hm, fun hn => ?_⟩, fun y hy => ?_⟩⟩
    · have ha := hi 0 (by omega)
      rw [show a.add 0 = a from rfl] at ha
      have hs := spot_of_cellI ha
      refine ⟨a.block, a.off, congrArg some hs, World.block_lt_of_cell? w _ ha, fun k v hv => ?_⟩
      rw [u32s_get?, List.getElem?_map] at hv
      have hk : k < len := by
        rcases Nat.lt_or_ge k len with h | h
        · exact h
        · rw [List.getElem?_eq_none (by rw [List.length_take]; omega)] at hv; cases hv
      have hkz : k < zs.length := by omega
      have hik := hi k hkz
      rw [hs, add_plainI] at hik
      rw [List.getElem?_take, if_pos hk, List.getElem?_eq_getElem hkz] at hv
      rw [List.getD_eq_getElem?_getD, List.getElem?_eq_getElem hkz] at hik
      have hb := hnat zs[k] (List.getElem_mem hkz)
      simp only [Option.map_some, Option.some.injEq, Option.getD_some] at hv hik
      rw [← hv, hik, Int.toNat_of_nonneg hb.1]
    · obtain ⟨z, hzz, rfl⟩ := List.mem_map.1 hy
      have := hnat z (List.mem_of_mem_take hzz)
      omega
end
set_option maxRecDepth 100000 in
/-- An argument that is an integer. -/
theorem open_I {H : Type} {enc : TypeId × Value → H} {w : World} {v : Value} {d : DataW H} {ps : List MemPlace} {r : Reach} {b0 : Nat}
    (hv : Value.okWide Tryz.prog w r b0 24 v) (h : DataW.Trod enc Tryz.prog w 0 (fun _ => true) true 24 v d ps) :
    ∃ (s : Bool) (A : Option Addr) (n c : Nat) (l : List Nat), v = .agg #[.bool s, .slice A n c] ∧ Lim w w.heap.size A n c l := by
  obtain ⟨f0, f1, hu, ho, t0, t1⟩ : ∃ f0 f1, Tryz.prog.underlying 24 = some (.struct #[f0, f1]) ∧ oneCellFields Tryz.prog #[f0, f1] = true ∧ f0.type = 4 ∧ f1.type = 22 :=
    ⟨(Tryz.prog.fieldsOf 24)[0]!, (Tryz.prog.fieldsOf 24)[1]!, by kernel_rfl, by kernel_rfl, by kernel_rfl, by kernel_rfl⟩
  obtain ⟨u0, u1, y0, y1, fl, rfl, -, -, k0, k1⟩ := open_agg2 hu ho (by kernel_rfl) hv h
  rw [t0] at k0
  rw [t1] at k1
  obtain ⟨s, e0, -⟩ := DataW.trod_bool Tryz.underlying4 k0
  obtain ⟨A, n, c, l, e1, hl⟩ := open_limbs Tryz.underlying22 Tryz.underlying73 (by kernel_rfl) k1
  have e0' : u0 = .bool s := by simpa using e0
  subst e0'; subst e1
  exact ⟨s, A, n, c, l, rfl, hl⟩

end Go.Proofs.YtjdfepchjeogcaaGreat

/- Arguments that are fractions, opened. -/
namespace Go.Proofs.YtjdfepchjeogcaaGreat
open Go.Joins Go.ChangeShapes Go.WideShapes Go.RowKit Go.Deep Go.ChangeAt

set_option maxRecDepth 100000 in
/-- Two cells that read as an integer. -/
theorem open_IC {H : Type} {enc : TypeId × Value → H} {w : World} {a b : Value} {fuel : Nat} {x : DataW H × List MemPlace}
    (h : DataW.trod enc Tryz.prog w 0 (fun _ => true) true fuel 24 [a, b] = some x) :
    ∃ (s : Bool) (A : Option Addr) (n c : Nat) (l : List Nat), a = .bool s ∧ b = .slice A n c ∧ Lim w w.heap.size A n c l := by
  obtain ⟨f0, f1, hu, ho, t0, t1⟩ : ∃ f0 f1, Tryz.prog.underlying 24 = some (.struct #[f0, f1]) ∧ oneCellFields Tryz.prog #[f0, f1] = true ∧ f0.type = 4 ∧ f1.type = 22 :=
    ⟨(Tryz.prog.fieldsOf 24)[0]!, (Tryz.prog.fieldsOf 24)[1]!, by kernel_rfl, by kernel_rfl, by kernel_rfl, by kernel_rfl⟩
  obtain ⟨y0, y1, n, -, -, h0, h1⟩ := trod_struct2 hu h
  obtain ⟨o0, k0⟩ := hone_of ho 0 f0 rfl
  obtain ⟨o1, k1⟩ := hone_of ho 1 f1 rfl
  have j0 : DataW.trod enc Tryz.prog w 0 (fun _ => true) true n f0.type [a] = some y0 := by simpa [o0, k0] using h0
  have j1 : DataW.trod enc Tryz.prog w 0 (fun _ => true) true n f1.type [b] = some y1 := by simpa [o1, k1] using h1
  rw [t0] at j0
  rw [t1] at j1
  obtain ⟨s, e0, -⟩ := DataW.trod_bool Tryz.underlying4 j0
  obtain ⟨A, m, c, l, e1, hl⟩ := open_limbs Tryz.underlying22 Tryz.underlying73 (by kernel_rfl) j1
  have e0' : a = .bool s := by simpa using e0
  exact ⟨s, A, m, c, l, e0', e1, hl⟩
set_option maxRecDepth 100000 in
/-- An argument that is a fraction. -/
theorem open_R {H : Type} {enc : TypeId × Value → H} {w : World} {v : Value} {d : DataW H} {ps : List MemPlace} {r : Reach} {b0 : Nat}
    (hv : Value.okWide Tryz.prog w r b0 41 v) (h : DataW.Trod enc Tryz.prog w 0 (fun _ => true) true 41 v d ps) :
    ∃ (s : Bool) (A : Option Addr) (n c : Nat) (l : List Nat) (t : Bool) (B : Option Addr) (m e : Nat) (k : List Nat), v = .agg #[.bool s, .slice A n c, .bool t, .slice B m e] ∧ Lim w w.heap.size A n c l ∧ Lim w w.heap.size B m e k := by
  obtain ⟨f0, f1, hu, t0, t1, o0, o1⟩ : ∃ f0 f1, Tryz.prog.underlying 41 = some (.struct #[f0, f1]) ∧ f0.type = 24 ∧ f1.type = 24 ∧ f0.offset = 0 ∧ f1.offset = 2 :=
    ⟨(Tryz.prog.fieldsOf 41)[0]!, (Tryz.prog.fieldsOf 41)[1]!, by kernel_rfl, by kernel_rfl, by kernel_rfl, by kernel_rfl, by kernel_rfl⟩
  have hI : Tryz.prog.cellsOf 24 = 2 := by kernel_rfl
  have hR : Tryz.prog.cellsOf 41 = 4 := by kernel_rfl
  obtain ⟨cs, rfl, hsz⟩ := okWide_struct hu hv
  obtain ⟨c0, c1, c2, c3, rfl⟩ := array4 (hsz.trans hR)
  obtain ⟨fuel, hf⟩ := h
  obtain ⟨y0, y1, n, -, -, h0, h1⟩ := trod_struct2 hu hf
  have j0 : DataW.trod enc Tryz.prog w 0 (fun _ => true) true n 24 [c0, c1] = some y0 := by simpa [Value.cells, t0, o0, hI] using h0
  have j1 : DataW.trod enc Tryz.prog w 0 (fun _ => true) true n 24 [c2, c3] = some y1 := by simpa [Value.cells, t1, o1, hI] using h1
  obtain ⟨s, A, n1, c, l, rfl, rfl, hl⟩ := open_IC j0
  obtain ⟨t, B, m, e, k, rfl, rfl, hk⟩ := open_IC j1
  exact ⟨s, A, n1, c, l, t, B, m, e, k, rfl, hl, hk⟩

end Go.Proofs.YtjdfepchjeogcaaGreat

/- An argument that is an array of two integers, opened. -/
namespace Go.Proofs.YtjdfepchjeogcaaGreat
open Go.Joins Go.ChangeShapes Go.WideShapes Go.RowKit Go.Deep Go.ChangeAt

theorem okWide_array_ {P : Program} {w : World} {r : Reach} {base : Nat} {t e : TypeId} {n : Nat} {v : Value} (ht : P.underlying t = some (.array n e)) (h : Value.okWide P w r base t v) : ∃ cs, v = .agg cs ∧ cs.size = P.cellsOf t := by
  simp only [Value.okWide, ht] at h
  obtain ⟨cs, h1, h2, _⟩ := h
  exact ⟨cs, h1, h2⟩
theorem array2 {cs : Array Value} (h : cs.size = 2) : ∃ a b, cs = #[a, b] := by
  obtain ⟨l⟩ := cs
  match l, h with
  | [a, b], _ => exact ⟨a, b, rfl⟩
set_option maxRecDepth 100000 in
theorem open_N {H : Type} {enc : TypeId × Value → H} {w : World} {v : Value} {d : DataW H} {ps : List MemPlace} {r : Reach} {b0 : Nat}
    (hv : Value.okWide Tryz.prog w r b0 42 v) (h : DataW.Trod enc Tryz.prog w 0 (fun _ => true) true 42 v d ps) :
    ∃ n m : Int, v = .agg #[.int .i64 n, .int .i64 m] ∧ -9223372036854775808 ≤ n ∧ n ≤ 9223372036854775807 ∧ -9223372036854775808 ≤ m ∧ m ≤ 9223372036854775807 := by
  have hu : Tryz.prog.underlying 42 = some (.array 2 3) := by kernel_rfl
  have hI : Tryz.prog.cellsOf 3 = 1 := by kernel_rfl
  have hR : Tryz.prog.cellsOf 42 = 2 := by kernel_rfl
  obtain ⟨cs, rfl, hsz⟩ := okWide_array_ hu hv
  obtain ⟨c0, c1, rfl⟩ := array2 (hsz.trans hR)
  obtain ⟨fuel, hf⟩ := h
  obtain ⟨xs, m, -, -, -, hl, hi⟩ := DataW.trod_array hu hf
  have h0 := hi 0 (by omega)
  have h1 := hi 1 (by omega)
  rw [hI] at h0 h1
  obtain ⟨y0, y1, rfl⟩ : ∃ y0 y1, xs = [y0, y1] := by
    match xs, hl with
    | [a, b], _ => exact ⟨a, b, rfl⟩
  have j0 : DataW.trod enc Tryz.prog w 0 (fun _ => true) true m 3 [c0] = some y0 := by simpa [Value.cells] using h0
  have j1 : DataW.trod enc Tryz.prog w 0 (fun _ => true) true m 3 [c1] = some y1 := by simpa [Value.cells] using h1
  obtain ⟨z0, e0, _, w0⟩ := DataW.trod_int Tryz.underlying3 j0
  obtain ⟨z1, e1, _, w1⟩ := DataW.trod_int Tryz.underlying3 j1
  simp only [Lit.wf, Bool.and_eq_true, decide_eq_true_eq] at w0 w1
  obtain rfl : c0 = .int .i64 z0 := by simpa using e0
  obtain rfl : c1 = .int .i64 z1 := by simpa using e1
  exact ⟨z0, z1, rfl, w0.1, w0.2, w1.1, w1.2⟩

end Go.Proofs.YtjdfepchjeogcaaGreat

/- ExactFractions: Ratio, Whole, Normal, Add, Sub, Mul, Quo, Cmp and Floor of the program return what the reference returns, for all fractions, also such as are not in normal form: the statement holds for every input, with no condition. -/
namespace Go.Proofs.YtjdfepchjeogcaaGreat
open Go.ChangeShapes Go.WideShapes Go.ChangeAt Go.RowKit Go.Joins Go.Deep

set_option maxRecDepth 100000 in
theorem fracs_lifted (os : Os) (started : os.Started) (H : Type) (enc : TypeId × Value → H) :
    ReturnsInHanded {} Tryz.checked os 5 .any (Rows.exactFractionsSpec.pre6 enc Tryz.prog Tryz.f5 Rows.exactFractionsRow.domain false) (Rows.exactFractionsSpec.post enc Tryz.prog Tryz.f5 false true false false) := by
  refine returnsInHanded_of_change (C := Tryz.checked) Tryz.own started (by kernel_rfl) Tryz.func5
    (ChangeSpec.witness6 (enc := enc) (C := Tryz.checked) false ⟨#[], #[.agg #[.bool false, .slice none 0 0, .bool false, .slice none 0 0], .agg #[.bool false, .slice none 0 0, .bool false, .slice none 0 0], .agg #[.int .i64 0, .int .i64 0]], []⟩ 8 (by kernel_rfl) (by kernel_rfl) (by kernel_rfl) (by kernel_rfl)) ?_
  intro W base args ds gs before hval0 hW _ _
  have hval : ∀ (j : Nat) t v, Tryz.f5.params[j]? = some t → args[j]? = some v → Value.okWide Tryz.prog W .any base t v := hval0
  have hW' := hW
  obtain ⟨p, q, hA0, hV, rfl, _, _⟩ := hW
  have hA : DataW.TrodAll enc Tryz.prog W 0 (fun _ => true) true Tryz.f5.params.toList args.toList ds p := hA0
  rw [Tryz.params5] at hA hval
  obtain ⟨v0, v1, v2, d0, d1, d2, p0, p1, p2, rfl, rfl, rfl, h0, h1, h2⟩ := trodAll_three hA
  obtain ⟨rfl, rfl⟩ := trodVars_none hV
  obtain ⟨s0, A0, n0, c0, l0, t0, B0, m0, e0, k0, rfl, g0, j0⟩ := open_R (hval 0 _ v0 rfl rfl) h0
  obtain ⟨s1, A1, n1, c1, l1, t1, B1, m1, e1, k1, rfl, g1, j1⟩ := open_R (hval 1 _ v1 rfl rfl) h1
  obtain ⟨n, m, rfl, hn1, hn2, hm1, hm2⟩ := open_N (hval 2 _ v2 rfl rfl) h2
  refine (lawFrac_any s0 t0 s1 t1 A0 B0 A1 B1 n0 c0 m0 e0 n1 c1 m1 e1 l0 k0 l1 k1 n m W g0 j0 g1 j1 hn1 hn2 hm1 hm2).mono fun e W' ⟨hb, he⟩ => ?_
  subst he
  exact ⟨_, rfl, law_post (tb := 4) Tryz.laidOut (by kernel_rfl) (by kernel_rfl) Tryz.underlying4 rfl hW' rfl rfl rfl hb⟩

theorem fracs_holds : Rows.ExactFractionsSaid :=
  OpenClaim.holds_of_wide 5 Tryz.f5 rfl rfl rfl rfl rfl rfl rfl ⟨rfl, rfl, rfl, rfl, rfl⟩ rfl rfl rfl rfl rfl (by kernel_rfl) Tryz.func5 (by kernel_rfl)
    (of_decide_eq_true (by kernel_rfl)) (by unfold Func.isWrapper; first | (rw [if_pos (by decide +kernel)]; kernel_rfl) | (rw [if_neg (by decide +kernel)]; exact ⟨rfl, rfl⟩))
    (fun os started H enc _ => fracs_lifted os started H enc)

end Go.Proofs.YtjdfepchjeogcaaGreat
