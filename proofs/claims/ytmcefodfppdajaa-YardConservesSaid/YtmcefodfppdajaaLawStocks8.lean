/- Chapter 8: the law YardStocks, walked. -/
import Derived.Test.YtmcefodfppdajaaSame8
import Derived.Test.YtmcefodfppdajaaAwake8
namespace Go.Proofs.Ytmcefodfppdajaa
open Go.RowKit Go.Deep

/-- Normal of a valid stock on both sides, with one word. -/
theorem normal_one (A : Option Addr) (n ca : Nat) (l : List Q4) (w : World) (h : Rws Q4.cs 4 w w.heap.size A n ca l) (hs : ∀ x ∈ l, x.s.size ≤ 30) (h0 : stockErr l = 0) :
    Calls Try.prog 14 #[.slice A n ca] w fun e w' => Below w.heap.size w w' ∧ ∃ A2 c2, e = .returned (.tuple #[.slice A2 (setL (manyL (foldL l)) (foldL l)).length c2, .int .i64 (setE (manyL (foldL l)))]) ∧ Rws Q4.cs 4 w' w'.heap.size A2 (setL (manyL (foldL l)) (foldL l)).length c2 (setL (manyL (foldL l)) (foldL l)) := by
  have hv := (stock_all h0).2
  have hme := many_eq (foldL_asc l) (fun k => foldL_c k) (fin_cnt hs hv)
  rw [hme]
  cases hm : manyB (cntS l) with
  | true =>
    refine (normal_many A n ca l w h hs h0 hm).mono ?_
    rintro e w' ⟨hb, rfl⟩
    exact ⟨hb, none, 0, rfl, Rws.nil_ _ _⟩
  | false =>
    refine (normal_ok A n ca l w h hs h0 hm).mono ?_
    rintro e w' ⟨hb, v, L, rfl, hnf, ho⟩
    obtain ⟨A2, c2, rfl, hr⟩ := Rws.of_own ho rfl
    have hnf2 := nzL_nf (foldL_asc l)
    have e1 : L = setL false (foldL l) := nf_same hnf.asc hnf2.asc hnf.nz hnf2.nz fun k => (hnf.cnt k).trans ((foldL_c k).symm.trans (hnf2.cnt k).symm)
    subst e1
    exact ⟨hb, A2, c2, rfl, hr⟩
theorem refNormal_one (A : Option Addr) (n ca : Nat) (l : List Q4) (w : World) (h : Rws Q4.cs 4 w w.heap.size A n ca l) (hs : ∀ x ∈ l, x.s.size ≤ 30) (h0 : stockErr l = 0) :
    Calls Try.prog 19 #[.slice A n ca] w fun e w' => Below w.heap.size w w' ∧ ∃ A2 c2, e = .returned (.tuple #[.slice A2 (setL (manyL (foldL l)) (foldL l)).length c2, .int .i64 (setE (manyL (foldL l)))]) ∧ Rws Q4.cs 4 w' w'.heap.size A2 (setL (manyL (foldL l)) (foldL l)).length c2 (setL (manyL (foldL l)) (foldL l)) := by
  refine (refNormal_any A n ca l w h (by have := (stock_all h0).1; have := h.len; omega) hs (stock_all h0).2).mono ?_
  rintro e w' ⟨hb, v, rfl, ho⟩
  obtain ⟨A2, c2, rfl, hr⟩ := Rws.of_own ho rfl
  exact ⟨hb, A2, c2, rfl, hr⟩
set_option maxRecDepth 100000 in
set_option maxHeartbeats 16000000 in
theorem lawStocks_any (A : Option Addr) (n ca : Nat) (l : List Q4) (part : ByteArray) (x y : Int) (w : World) (h : Rws Q4.cs 4 w w.heap.size A n ca l) (hx : i64B x) (hy : i64B y) :
    Calls Try.prog 3 #[.slice A n ca, .string part, .agg #[.int .i64 x, .int .i64 y]] w fun e w' => Below w.heap.size w w' ∧ e = .returned (.bool true) := by
  have hcap := h.cap
  have hmax := h.max
  have H : Hid (∀ w', Below w.heap.size w w' → Rws Q4.cs 4 w' w'.heap.size A n ca l) := Lib.hid fun w' hb => h.below hb (Nat.le_refl _) hb.size
  obtain ⟨S, hS⟩ : ∃ S, shortB l = S := ⟨_, rfl⟩
  have SH : Hid (∀ W, Below w.heap.size w W → Calls Try.prog 13 #[.slice A n ca] W fun e w' => Below W.heap.size W w' ∧ e = .returned (.bool S)) := Lib.hid fun W hW => by rw [← hS]; exact short_any A n ca l W (H.out W hW)
  have HB0 : Hid (Below w.heap.size w (w.alloc (.cells #[.int .i64 x, .int .i64 y] 23))) := Lib.hid (by repeat (first | with_reducible exact Below.refl _ _ | with_reducible assumption | with_reducible refine Below.drew ?_ | with_reducible refine Below.drewN ?_ _ | with_reducible refine Below.alloc2 ?_ _ | with_reducible refine Below.alloc ?_ (by first | omega | (simp <;> omega)) _ | with_reducible refine Below.setCell ?_ (by first | omega | (simp <;> omega)) _ | with_reducible refine Below.step2 (by with_reducible assumption) ?_ | with_reducible refine Below.step (by with_reducible assumption) ?_ (by first | omega | (simp <;> omega))))
  have HX0 : Hid (Bk (w.alloc (.cells #[.int .i64 x, .int .i64 y] 23)) w.heap.size 23 #[.int .i64 x, .int .i64 y]) := Lib.hid (Bk.at_ rfl)
  cases S
  · clear h hS
    go_enter Try.func3, Try.ntmps3
    go_wp2_with (first | (go_at_call 12; with_reducible refine (awake_true _).mono ?_; rintro e w1 ⟨hb1, rfl⟩; have HB1 : Hid (Below w.heap.size w w1) := Lib.hid (HB0.out.trans (hb1.mono HB0.out.size)); have HX1 : Hid (Bk w1 w.heap.size 23 #[.int .i64 x, .int .i64 y]) := Lib.hid (HX0.out.below hb1 HX0.out.lt); clear hb1) | (go_at_call 13; with_reducible refine (SH.out _ HB1.out).mono ?_; rintro e w2 ⟨hb2, rfl⟩; have HB2 : Hid (Below w.heap.size w w2) := Lib.hid (HB1.out.trans (hb2.mono HB1.out.size)); have HX2 : Hid (Bk w2 w.heap.size 23 #[.int .i64 x, .int .i64 y]) := Lib.hid (HX1.out.below hb2 HX1.out.lt); clear hb2))
    go_ret
    exact ⟨HB2.out, rfl⟩
  obtain ⟨-, hs⟩ := shortB_iff.1 hS
  by_cases hp : part.size ≤ 30
  rotate_left
  · have hp' : (30 : Int) < (part.size : Int) := by omega
    clear h hS hs
    go_enter Try.func3, Try.ntmps3
    go_wp2_with (first | (go_at_call 12; with_reducible refine (awake_true _).mono ?_; rintro e w1 ⟨hb1, rfl⟩; have HB1 : Hid (Below w.heap.size w w1) := Lib.hid (HB0.out.trans (hb1.mono HB0.out.size)); have HX1 : Hid (Bk w1 w.heap.size 23 #[.int .i64 x, .int .i64 y]) := Lib.hid (HX0.out.below hb1 HX0.out.lt); clear hb1) | (go_at_call 13; with_reducible refine (SH.out _ HB1.out).mono ?_; rintro e w2 ⟨hb2, rfl⟩; have HB2 : Hid (Below w.heap.size w w2) := Lib.hid (HB1.out.trans (hb2.mono HB1.out.size)); have HX2 : Hid (Bk w2 w.heap.size 23 #[.int .i64 x, .int .i64 y]) := Lib.hid (HX1.out.below hb2 HX1.out.lt); clear hb2))
    go_ret
    exact ⟨HB2.out, rfl⟩
  have hp' : ¬ (30 : Int) < (part.size : Int) := by omega
  have hk : shOk (part, x, y) := ⟨by show part.size ≤ 1000; omega, hx, hy⟩
  obtain ⟨E, hE⟩ : ∃ E, stockErr l = E := ⟨_, rfl⟩
  have CK : Hid (∀ W, Below w.heap.size w W → Calls Try.prog 18 #[.slice A n ca] W fun e w' => Below W.heap.size W w' ∧ e = .returned (.int .i64 E)) := Lib.hid fun W hW => by rw [← hE]; exact check_any A n ca l W (H.out W hW) hs
  have RC : Hid (∀ W, Below w.heap.size w W → Calls Try.prog 17 #[.slice A n ca] W fun e w' => Below W.heap.size W w' ∧ e = .returned (.int .i64 E)) := Lib.hid fun W hW => by rw [← hE]; exact refCheck_any A n ca l W (H.out W hW) hs
  by_cases h0 : E = 0
  rotate_left
  · have hne : stockErr l ≠ 0 := by rw [hE]; exact h0
    have NM : Hid (∀ W, Below w.heap.size w W → Calls Try.prog 14 #[.slice A n ca] W fun e w' => Below W.heap.size W w' ∧ e = .returned (.tuple #[.slice none 0 0, .int .i64 E])) := Lib.hid fun W hW => by rw [← hE]; exact normal_bad A n ca l W (H.out W hW) hs hne
    have CN : Hid (∀ W, Below w.heap.size w W → Calls Try.prog 15 #[.slice A n ca, .string part, .agg #[.int .i64 x, .int .i64 y]] W fun e w' => Below W.heap.size W w' ∧ e = .returned (.tuple #[.int .i64 0, .int .i64 E])) := Lib.hid fun W hW => by rw [← hE]; exact count_bad A n ca l part x y W (H.out W hW) hs hne
    have TT : Hid (∀ W, Below w.heap.size w W → Calls Try.prog 16 #[.slice A n ca, .string part] W fun e w' => Below W.heap.size W w' ∧ e = .returned (.tuple #[.int .i64 0, .int .i64 E])) := Lib.hid fun W hW => by rw [← hE]; exact total_bad A n ca l part W (H.out W hW) hs hne
    have hq : (E != 0) = true := by simpa using h0
    clear h hS hs hE h0 hne hk
    go_enter Try.func3, Try.ntmps3
    go_wp2_with (first | (go_at_call 12; with_reducible refine (awake_true _).mono ?_; rintro e w1 ⟨hb1, rfl⟩; have HB1 : Hid (Below w.heap.size w w1) := Lib.hid (HB0.out.trans (hb1.mono HB0.out.size)); have HX1 : Hid (Bk w1 w.heap.size 23 #[.int .i64 x, .int .i64 y]) := Lib.hid (HX0.out.below hb1 HX0.out.lt); clear hb1) | (go_at_call 13; with_reducible refine (SH.out _ HB1.out).mono ?_; rintro e w2 ⟨hb2, rfl⟩; have HB2 : Hid (Below w.heap.size w w2) := Lib.hid (HB1.out.trans (hb2.mono HB1.out.size)); have HX2 : Hid (Bk w2 w.heap.size 23 #[.int .i64 x, .int .i64 y]) := Lib.hid (HX1.out.below hb2 HX1.out.lt); clear hb2) | (go_at_call 14; with_reducible refine (NM.out _ HB2.out).mono ?_; rintro e w3 ⟨hb3, rfl⟩; have HB3 : Hid (Below w.heap.size w w3) := Lib.hid (HB2.out.trans (hb3.mono HB2.out.size)); have HX3 : Hid (Bk w3 w.heap.size 23 #[.int .i64 x, .int .i64 y]) := Lib.hid (HX2.out.below hb3 HX2.out.lt); obtain ⟨⟨p3, q3⟩, -⟩ := HX3.out.two; clear hb3) | (go_at_call 15; with_reducible refine (CN.out _ HB3.out).mono ?_; rintro e w4 ⟨hb4, rfl⟩; have HB4 : Hid (Below w.heap.size w w4) := Lib.hid (HB3.out.trans (hb4.mono HB3.out.size)); have HX4 : Hid (Bk w4 w.heap.size 23 #[.int .i64 x, .int .i64 y]) := Lib.hid (HX3.out.below hb4 HX3.out.lt); obtain ⟨⟨p4, q4⟩, -⟩ := HX4.out.two; clear hb4) | (go_at_call 16; with_reducible refine (TT.out _ HB4.out).mono ?_; rintro e w5 ⟨hb5, rfl⟩; have HB5 : Hid (Below w.heap.size w w5) := Lib.hid (HB4.out.trans (hb5.mono HB4.out.size)); have HX5 : Hid (Bk w5 w.heap.size 23 #[.int .i64 x, .int .i64 y]) := Lib.hid (HX4.out.below hb5 HX4.out.lt); obtain ⟨⟨p5, q5⟩, -⟩ := HX5.out.two; clear hb5) | (go_at_call 17; with_reducible refine (RC.out _ HB5.out).mono ?_; rintro e w6 ⟨hb6, rfl⟩; have HB6 : Hid (Below w.heap.size w w6) := Lib.hid (HB5.out.trans (hb6.mono HB5.out.size)); have HX6 : Hid (Bk w6 w.heap.size 23 #[.int .i64 x, .int .i64 y]) := Lib.hid (HX5.out.below hb6 HX5.out.lt); obtain ⟨⟨p6, q6⟩, -⟩ := HX6.out.two; clear hb6) | (go_at_call 18; with_reducible refine (CK.out _ HB6.out).mono ?_; rintro e w7 ⟨hb7, rfl⟩; have HB7 : Hid (Below w.heap.size w w7) := Lib.hid (HB6.out.trans (hb7.mono HB6.out.size)); have HX7 : Hid (Bk w7 w.heap.size 23 #[.int .i64 x, .int .i64 y]) := Lib.hid (HX6.out.below hb7 HX6.out.lt); obtain ⟨⟨p7, q7⟩, -⟩ := HX7.out.two; clear hb7))
    go_ret
    exact ⟨HB7.out, rfl⟩
  subst h0
  have hn : n ≤ 1000 := by have := (stock_all hE).1; have := h.len; omega
  have hb0 : ∀ x ∈ l, 0 ≤ x.c ∧ x.c ≤ 1000000 := fun x hx => (sE_sh ((stock_all hE).2 x hx) (hs x hx)).2
  obtain ⟨LL, hLL⟩ : ∃ LL, setL (manyL (foldL l)) (foldL l) = LL := ⟨_, rfl⟩
  obtain ⟨D, hD⟩ : ∃ D, setE (manyL (foldL l)) = D := ⟨_, rfl⟩
  obtain ⟨R, hR⟩ : ∃ R, cntS l (part, x, y) = R := ⟨_, rfl⟩
  obtain ⟨T, hT⟩ : ∃ T, totS l part = T := ⟨_, rfl⟩
  have NM : Hid (∀ W, Below w.heap.size w W → Calls Try.prog 14 #[.slice A n ca] W fun e w' => Below W.heap.size W w' ∧ ∃ A2 c2, e = .returned (.tuple #[.slice A2 LL.length c2, .int .i64 D]) ∧ Rws Q4.cs 4 w' w'.heap.size A2 LL.length c2 LL) := Lib.hid fun W hW => by
    have := normal_one A n ca l W (H.out W hW) hs hE
    rwa [hLL, hD] at this
  have RN : Hid (∀ W, Below w.heap.size w W → Calls Try.prog 19 #[.slice A n ca] W fun e w' => Below W.heap.size W w' ∧ ∃ A2 c2, e = .returned (.tuple #[.slice A2 LL.length c2, .int .i64 D]) ∧ Rws Q4.cs 4 w' w'.heap.size A2 LL.length c2 LL) := Lib.hid fun W hW => by
    have := refNormal_one A n ca l W (H.out W hW) hs hE
    rwa [hLL, hD] at this
  have CN : Hid (∀ W, Below w.heap.size w W → Calls Try.prog 15 #[.slice A n ca, .string part, .agg #[.int .i64 x, .int .i64 y]] W fun e w' => Below W.heap.size W w' ∧ e = .returned (.tuple #[.int .i64 R, .int .i64 0])) := Lib.hid fun W hW => by rw [← hR]; exact count_ok A n ca l part x y W (H.out W hW) hs hE hk
  have RCN : Hid (∀ W, Below w.heap.size w W → Calls Try.prog 21 #[.slice A n ca, .string part, .agg #[.int .i64 x, .int .i64 y]] W fun e w' => Below W.heap.size W w' ∧ e = .returned (.int .i64 R)) := Lib.hid fun W hW => by rw [← hR]; exact refCount_any A n ca l part x y W (H.out W hW) hn fun z hz => by have := hb0 z hz; omega
  have TT : Hid (∀ W, Below w.heap.size w W → Calls Try.prog 16 #[.slice A n ca, .string part] W fun e w' => Below W.heap.size W w' ∧ e = .returned (.tuple #[.int .i64 T, .int .i64 0])) := Lib.hid fun W hW => by rw [← hT]; exact total_ok A n ca l part W (H.out W hW) hs hE
  have RTT : Hid (∀ W, Below w.heap.size w W → Calls Try.prog 22 #[.slice A n ca, .string part] W fun e w' => Below W.heap.size W w' ∧ e = .returned (.int .i64 T)) := Lib.hid fun W hW => by rw [← hT]; exact refTotal_any A n ca l part W (H.out W hW) hn fun z hz => by have := hb0 z hz; omega
  clear h hS hs hE hk hLL hD hR hT hb0 hn
  go_enter Try.func3, Try.ntmps3
  go_wp2_with (first
    | (go_at_call 12; with_reducible refine (awake_true _).mono ?_; rintro e w1 ⟨hb1, rfl⟩; have HB1 : Hid (Below w.heap.size w w1) := Lib.hid (HB0.out.trans (hb1.mono HB0.out.size)); have HX1 : Hid (Bk w1 w.heap.size 23 #[.int .i64 x, .int .i64 y]) := Lib.hid (HX0.out.below hb1 HX0.out.lt); clear hb1)
    | (go_at_call 13; with_reducible refine (SH.out _ HB1.out).mono ?_; rintro e w2 ⟨hb2, rfl⟩; have HB2 : Hid (Below w.heap.size w w2) := Lib.hid (HB1.out.trans (hb2.mono HB1.out.size)); have HX2 : Hid (Bk w2 w.heap.size 23 #[.int .i64 x, .int .i64 y]) := Lib.hid (HX1.out.below hb2 HX1.out.lt); clear hb2)
    | (go_at_call 14; with_reducible refine (NM.out _ HB2.out).mono ?_; rintro e w3 ⟨hb3, A3, c3, rfl, hr3⟩; have HB3 : Hid (Below w.heap.size w w3) := Lib.hid (HB2.out.trans (hb3.mono HB2.out.size)); have HX3 : Hid (Bk w3 w.heap.size 23 #[.int .i64 x, .int .i64 y]) := Lib.hid (HX2.out.below hb3 HX2.out.lt); obtain ⟨⟨p3, q3⟩, -⟩ := HX3.out.two; have HR3 := Lib.hid hr3; have hc3 := hr3.cap; have hm3 := hr3.max; clear hr3; clear hb3)
    | (go_at_call 15; with_reducible refine (CN.out _ HB3.out).mono ?_; rintro e w4 ⟨hb4, rfl⟩; have HB4 : Hid (Below w.heap.size w w4) := Lib.hid (HB3.out.trans (hb4.mono HB3.out.size)); have HX4 : Hid (Bk w4 w.heap.size 23 #[.int .i64 x, .int .i64 y]) := Lib.hid (HX3.out.below hb4 HX3.out.lt); obtain ⟨⟨p4, q4⟩, -⟩ := HX4.out.two; have HR4 := Lib.hid (HR3.out.below hb4 (Nat.le_refl _) hb4.size); clear hb4)
    | (go_at_call 16; with_reducible refine (TT.out _ HB4.out).mono ?_; rintro e w5 ⟨hb5, rfl⟩; have HB5 : Hid (Below w.heap.size w w5) := Lib.hid (HB4.out.trans (hb5.mono HB4.out.size)); have HX5 : Hid (Bk w5 w.heap.size 23 #[.int .i64 x, .int .i64 y]) := Lib.hid (HX4.out.below hb5 HX4.out.lt); obtain ⟨⟨p5, q5⟩, -⟩ := HX5.out.two; have HR5 := Lib.hid (HR4.out.below hb5 (Nat.le_refl _) hb5.size); clear hb5)
    | (go_at_call 17; with_reducible refine (RC.out _ HB5.out).mono ?_; rintro e w6 ⟨hb6, rfl⟩; have HB6 : Hid (Below w.heap.size w w6) := Lib.hid (HB5.out.trans (hb6.mono HB5.out.size)); have HX6 : Hid (Bk w6 w.heap.size 23 #[.int .i64 x, .int .i64 y]) := Lib.hid (HX5.out.below hb6 HX5.out.lt); obtain ⟨⟨p6, q6⟩, -⟩ := HX6.out.two; have HR6 := Lib.hid (HR5.out.below hb6 (Nat.le_refl _) hb6.size); clear hb6)
    | (go_at_call 18; with_reducible refine (CK.out _ HB6.out).mono ?_; rintro e w7 ⟨hb7, rfl⟩; have HB7 : Hid (Below w.heap.size w w7) := Lib.hid (HB6.out.trans (hb7.mono HB6.out.size)); have HX7 : Hid (Bk w7 w.heap.size 23 #[.int .i64 x, .int .i64 y]) := Lib.hid (HX6.out.below hb7 HX6.out.lt); obtain ⟨⟨p7, q7⟩, -⟩ := HX7.out.two; have HR7 := Lib.hid (HR6.out.below hb7 (Nat.le_refl _) hb7.size); clear hb7)
    | (go_at_call 19; with_reducible refine (RN.out _ HB7.out).mono ?_; rintro e w8 ⟨hb8, A8, c8, rfl, hr8⟩; have HB8 : Hid (Below w.heap.size w w8) := Lib.hid (HB7.out.trans (hb8.mono HB7.out.size)); have HX8 : Hid (Bk w8 w.heap.size 23 #[.int .i64 x, .int .i64 y]) := Lib.hid (HX7.out.below hb8 HX7.out.lt); obtain ⟨⟨p8, q8⟩, -⟩ := HX8.out.two; have HR8 := Lib.hid (HR7.out.below hb8 (Nat.le_refl _) hb8.size); have HQ8 := Lib.hid hr8; have hc8 := hr8.cap; have hm8 := hr8.max; clear hr8; clear hb8)
    | (go_at_call 20; with_reducible refine (sameStock_eq A3 A8 _ _ _ LL w8 HR8.out HQ8.out).mono ?_; rintro e w9 ⟨hb9, rfl⟩; have HB9 : Hid (Below w.heap.size w w9) := Lib.hid (HB8.out.trans (hb9.mono HB8.out.size)); have HX9 : Hid (Bk w9 w.heap.size 23 #[.int .i64 x, .int .i64 y]) := Lib.hid (HX8.out.below hb9 HX8.out.lt); obtain ⟨⟨p9, q9⟩, -⟩ := HX9.out.two; clear hb9)
    | (go_at_call 21; with_reducible refine (RCN.out _ HB9.out).mono ?_; rintro e w10 ⟨hb10, rfl⟩; have HB10 : Hid (Below w.heap.size w w10) := Lib.hid (HB9.out.trans (hb10.mono HB9.out.size)); have HX10 : Hid (Bk w10 w.heap.size 23 #[.int .i64 x, .int .i64 y]) := Lib.hid (HX9.out.below hb10 HX9.out.lt); obtain ⟨⟨p10, q10⟩, -⟩ := HX10.out.two; clear hb10)
    | (go_at_call 22; with_reducible refine (RTT.out _ HB10.out).mono ?_; rintro e w11 ⟨hb11, rfl⟩; have HB11 : Hid (Below w.heap.size w w11) := Lib.hid (HB10.out.trans (hb11.mono HB10.out.size)); have HX11 : Hid (Bk w11 w.heap.size 23 #[.int .i64 x, .int .i64 y]) := Lib.hid (HX10.out.below hb11 HX10.out.lt); obtain ⟨⟨p11, q11⟩, -⟩ := HX11.out.two; clear hb11))
  go_ret
  exact ⟨HB11.out, rfl⟩

end Go.Proofs.Ytmcefodfppdajaa
