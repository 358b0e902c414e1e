/- The law RecordChecks, out of its callees' contracts: records that are too long, and records with a fault. -/
import Derived.Test.YtgjjjnofdjhikaaAdd9
import Derived.Test.YtgjjjnofdjhikaaCopies9
import Derived.Test.YtgjjjnofdjhikaaPlatT9
import Derived.Test.YtgjjjnofdjhikaaLineG
import Derived.Test.YtgjjjnofdjhikaaAwake9
namespace Go.Proofs.Ytgjjjnofdjhikaa
open Go Go.RowKit Go.WideShapes Go.Proofs.Ytgjjjnofdjhikaa.Sim

theorem wpList_met {P : Program} {ops : Array Oper} {Q : Exit → Act → World → Prop} {rest : List Oper} {o : Oper} {a : Act} {w : World} (hw : Region.wanted o (yielded ops a.tmps) = true)
    (h : wpList P ops Q ({ o with guard := none } :: rest) a w) : wpList P ops Q (o :: rest) a w := by
  unfold wpList at h ⊢
  rw [if_pos hw]
  rw [if_pos (by simp [Region.wanted])] at h
  exact h
theorem refCheckRec_all (A : Option Addr) (n c : Nat) (l : List Ev) (w : World) (h : Rws Ev.cs 6 w w.heap.size A n c l) (hs : n ≤ 400 → ∀ x ∈ l, x.p.size ≤ 30) :
    Calls Try.prog 11 #[.slice A n c] w fun e w' => Below w.heap.size w w' ∧ e = .returned (.int .i64 (recErr l)) := by
  by_cases hbig : 400 < n
  · have hcap := h.cap
    have hmax := h.max
    have HR : Hid (recErr l = 8) := Lib.hid (by rw [recErr, h.len, if_pos hbig])
    clear h hs
    go_enter Try.func11, Try.ntmps11
    go_wp2
    go_ret
    exact ⟨(by repeat (first | with_reducible exact Below.refl _ _ | with_reducible assumption | with_reducible refine Below.drew ?_ | with_reducible refine Below.drewN ?_ _ | with_reducible refine Below.alloc2 ?_ _ | with_reducible refine Below.alloc ?_ (by first | omega | (simp <;> omega)) _ | with_reducible refine Below.setCell ?_ (by first | omega | (simp <;> omega)) _ | with_reducible refine Below.step2 (by with_reducible assumption) ?_ | with_reducible refine Below.step (by with_reducible assumption) ?_ (by first | omega | (simp <;> omega)))), ret_int HR.out.symm⟩
  · exact refCheckRecord_any A n c l w h (hs (by omega))
set_option maxRecDepth 100000 in
set_option maxHeartbeats 4000000 in
theorem lawChecks_long (A : Option Addr) (n c : Nat) (l : List Ev) (xd xk xn : Int) (xp : ByteArray) (xs xg : Bool) (w : World) (h : Rws Ev.cs 6 w w.heap.size A n c l) (hl : shB l = false ∨ 30 < xp.size) :
    Calls Try.prog 3 #[.slice A n c, .agg #[.int .i64 xd, .int .i64 xk, .string xp, .int .i64 xn, .bool xs, .bool xg]] w fun e w' => Below w.heap.size w w' ∧ e = .returned (.bool true) := by
  obtain ⟨b, hb⟩ : ∃ b, shB l = b := ⟨_, rfl⟩
  have SH : Hid (∀ W, Below w.heap.size w W → Calls Try.prog 10 #[.slice A n c] W fun e w' => W = w' ∧ e = .returned (.bool b)) := Lib.hid fun W hW => by
    have := short_any A n c _ l W (h.below hW (Nat.le_refl _) hW.size)
    rwa [hb] at this
  rw [hb] at hl
  clear h hb
  cases b
  · clear hl
    go_enter Try.func3, Try.ntmps3
    go_wp2_with (first
      | (go_at_call 9; refine (awake_true _).mono ?_; rintro e w1 ⟨hb1, rfl⟩; have hk1 : Bk w1 w.heap.size 24 #[.int .i64 xd, .int .i64 xk, .string xp, .int .i64 xn, .bool xs, .bool xg] := (by refine Bk.below (D := _) ?_ hb1 (by simp); exact (by repeat (first | with_reducible assumption | with_reducible exact Bk.at_ (by first | (simp; done) | omega) | with_reducible refine Bk.alloc ?_ _ | with_reducible refine Bk.drew ?_ | with_reducible refine Bk.drewN ?_ _ | with_reducible refine Bk.step (by with_reducible assumption) ?_ (by first | omega | (simp <;> omega))))); have hbw : Below w.heap.size w w1 := ((Below.refl _ w).alloc (Nat.le_refl _) _).trans (hb1.mono (by simp)); have HB1 := Lib.hid hbw; have HK1 := Lib.hid hk1; have ol1 := hk1.lt; obtain ⟨q1, r1, s1, t1, u1, v1⟩ := hk1.sixc; clear hk1 hb1 hbw)
      | (go_at_call 10; refine (SH.out _ HB1.out).mono ?_; rintro e w' ⟨rfl, rfl⟩))
    go_ret
    exact ⟨HB1.out, rfl⟩
  · have h30 : ¬ xp.size ≤ 30 := by
      rcases hl with h | h
      · cases h
      · omega
    clear hl
    go_enter Try.func3, Try.ntmps3
    go_wp2_with (first
      | (go_at_call 9; refine (awake_true _).mono ?_; rintro e w1 ⟨hb1, rfl⟩; have hk1 : Bk w1 w.heap.size 24 #[.int .i64 xd, .int .i64 xk, .string xp, .int .i64 xn, .bool xs, .bool xg] := (by refine Bk.below (D := _) ?_ hb1 (by simp); exact (by repeat (first | with_reducible assumption | with_reducible exact Bk.at_ (by first | (simp; done) | omega) | with_reducible refine Bk.alloc ?_ _ | with_reducible refine Bk.drew ?_ | with_reducible refine Bk.drewN ?_ _ | with_reducible refine Bk.step (by with_reducible assumption) ?_ (by first | omega | (simp <;> omega))))); have hbw : Below w.heap.size w w1 := ((Below.refl _ w).alloc (Nat.le_refl _) _).trans (hb1.mono (by simp)); have HB1 := Lib.hid hbw; have HK1 := Lib.hid hk1; have ol1 := hk1.lt; obtain ⟨q1, r1, s1, t1, u1, v1⟩ := hk1.sixc; clear hk1 hb1 hbw)
      | (go_at_call 10; refine (SH.out _ HB1.out).mono ?_; rintro e w' ⟨rfl, rfl⟩))
    go_ret
    exact ⟨HB1.out, rfl⟩
set_option maxRecDepth 100000 in
set_option maxHeartbeats 4000000 in
theorem lawChecks_bad (A : Option Addr) (n c : Nat) (l : List Ev) (xd xk xn : Int) (xp : ByteArray) (xs xg : Bool) (w : World) (h : Rws Ev.cs 6 w w.heap.size A n c l) (hl : shB l = true) (hp : xp.size ≤ 30) (ho : ∀ x ∈ l, evOk x) (hE : recErr l ≠ 0) :
    Calls Try.prog 3 #[.slice A n c, .agg #[.int .i64 xd, .int .i64 xk, .string xp, .int .i64 xn, .bool xs, .bool xg]] w fun e w' => Below w.heap.size w w' ∧ e = .returned (.bool true) := by
  have hcap := h.cap
  have hmax := h.max
  have HLEN := Lib.hid h.len
  have H : Hid (∀ W, Below w.heap.size w W → Rws Ev.cs 6 W W.heap.size A n c l) := fun W hW => h.below hW (Nat.le_refl _) hW.size
  have hn405 := (shB_facts hl).1
  rw [HLEN.out] at hn405
  have hs : n ≤ 400 → ∀ x ∈ l, x.p.size ≤ 30 := fun hq => (shB_facts hl).2 (by rw [HLEN.out]; exact hq)
  have SH : Hid (∀ W, Below w.heap.size w W → Calls Try.prog 10 #[.slice A n c] W fun e w' => W = w' ∧ e = .returned (.bool true)) := Lib.hid fun W hW => by
    have := short_any A n c _ l W (H.out W hW)
    rwa [hl] at this
  have CP : Hid (∀ W, Below w.heap.size w W → Calls Try.prog 13 #[.slice A n c] W fun e w' => Below W.heap.size W w' ∧ ∃ v, e = .returned v ∧ w'.ownsRow W.heap.size 24 6 v n (l.flatMap Ev.cs)) := Lib.hid fun W hW =>
    copied_any A n c l W (H.out W hW) (by omega)
  obtain ⟨D, hD⟩ : ∃ D, recErr l = D := ⟨_, rfl⟩
  have RC : Hid (∀ W, Below w.heap.size w W → Calls Try.prog 11 #[.slice A n c] W fun e w' => Below W.heap.size W w' ∧ e = .returned (.int .i64 D)) := Lib.hid fun W hW => by
    have := refCheckRec_all A n c l W (H.out W hW) hs
    rwa [hD] at this
  have CR : Hid (∀ A c W, Rws Ev.cs 6 W W.heap.size A n c l → Calls Try.prog 15 #[.slice A n c] W fun e w' => Below W.heap.size W w' ∧ e = .returned (.int .i64 D)) := Lib.hid fun A c W hW => by
    have := checkRec_all A n c l W hW hs ho
    rwa [hD] at this
  rw [hD] at hE
  obtain ⟨G, hG⟩ : ∃ G, G = D := ⟨_, rfl⟩
  have PF : Hid (∀ A c W, Rws Ev.cs 6 W W.heap.size A n c l → Calls Try.prog 12 #[.slice A n c] W fun e w' => Below W.heap.size W w' ∧ ∃ A2 n2 c2, e = .returned (.tuple #[.slice A2 n2 c2, .int .i64 D]) ∧ n2 = 0) := Lib.hid fun A c W hW =>
    (platforms_bad A n c l W hW hs ho D hD hE).mono fun e w' ⟨hb, he⟩ => ⟨hb, none, 0, 0, he, rfl⟩
  have AD : Hid (∀ A c W, Rws Ev.cs 6 W W.heap.size A n c l → Calls Try.prog 14 #[.slice A n c, .agg #[.int .i64 xd, .int .i64 xk, .string xp, .int .i64 xn, .bool xs, .bool xg]] W fun e w' => Below W.heap.size W w' ∧ ∃ A2 n2 c2, e = .returned (.tuple #[.slice A2 n2 c2, .int .i64 G]) ∧ n2 = 0) := Lib.hid fun A c W hW => by
    rw [hG]
    exact (add_bad A n c l xd xk xn xp xs xg W hW hs ho D hD hE).mono fun e w' ⟨hb, he⟩ => ⟨hb, none, 0, 0, he, rfl⟩
  have hD0 : (D == 0) = false := by simpa using hE
  have hD1 : (D != 0) = true := by simpa using hE
  subst hG
  clear h hl hs ho hE hD
  (
      go_enter Try.func3, Try.ntmps3
      go_upto_region 7 with (first
        | (go_at_call 9; refine (awake_true _).mono ?_; rintro e w1 ⟨hb1, rfl⟩; have hk1 : Bk w1 w.heap.size 24 #[.int .i64 xd, .int .i64 xk, .string xp, .int .i64 xn, .bool xs, .bool xg] := (by refine Bk.below (D := _) ?_ hb1 (by simp); exact (by repeat (first | with_reducible assumption | with_reducible exact Bk.at_ (by first | (simp; done) | omega) | with_reducible refine Bk.alloc ?_ _ | with_reducible refine Bk.drew ?_ | with_reducible refine Bk.drewN ?_ _ | with_reducible refine Bk.step (by with_reducible assumption) ?_ (by first | omega | (simp <;> omega))))); have hbw : Below w.heap.size w w1 := ((Below.refl _ w).alloc (Nat.le_refl _) _).trans (hb1.mono (by simp)); have HB1 := Lib.hid hbw; have HK1 := Lib.hid hk1; have ol1 := hk1.lt; obtain ⟨q1, r1, s1, t1, u1, v1⟩ := hk1.sixc; clear hk1 hb1 hbw)
        | (go_at_call 10; refine (SH.out _ HB1.out).mono ?_; rintro e w' ⟨rfl, rfl⟩)
        | (go_at_call 11; refine (RC.out _ HB1.out).mono ?_; rintro e w2 ⟨hb2, rfl⟩; have hk2 : Bk w2 w.heap.size 24 #[.int .i64 xd, .int .i64 xk, .string xp, .int .i64 xn, .bool xs, .bool xg] := (by have hk0 := HK1.out; refine Bk.below (D := _) ?_ hb2 (by have := hk0.lt; first | omega | (simp; omega)); exact (by repeat (first | with_reducible assumption | with_reducible exact Bk.at_ (by first | (simp; done) | omega) | with_reducible refine Bk.alloc ?_ _ | with_reducible refine Bk.drew ?_ | with_reducible refine Bk.drewN ?_ _ | with_reducible refine Bk.step (by with_reducible assumption) ?_ (by first | omega | (simp <;> omega))))); have hbw2 : Below w.heap.size w w2 := (by have hb0 := HB1.out; refine Below.trans ?_ (hb2.mono ?_); (exact (by repeat (first | with_reducible exact Below.refl _ _ | with_reducible assumption | with_reducible refine Below.drew ?_ | with_reducible refine Below.drewN ?_ _ | with_reducible refine Below.alloc2 ?_ _ | with_reducible refine Below.alloc ?_ (by first | omega | (simp <;> omega)) _ | with_reducible refine Below.setCell ?_ (by first | omega | (simp <;> omega)) _ | with_reducible refine Below.step2 (by with_reducible assumption) ?_ | with_reducible refine Below.step (by with_reducible assumption) ?_ (by first | omega | (simp <;> omega))))); (first | omega | (have := HB1.out.size; simp; omega))); have HB2 := Lib.hid hbw2; have HK2 := Lib.hid hk2; have ol2 := hk2.lt; obtain ⟨q2, r2, s2, t2, u2, v2⟩ := hk2.sixc; clear hk2 hbw2 hb2)
        | (go_at_call 13; refine (CP.out _ HB2.out).mono ?_; rintro e w3 ⟨hb3, v, rfl, hown⟩; obtain ⟨A1, c1, rfl, hr⟩ := Rws.of_own hown HLEN.out; have HRW3 := Lib.hid hr; clear hown hr; have hk3 : Bk w3 w.heap.size 24 #[.int .i64 xd, .int .i64 xk, .string xp, .int .i64 xn, .bool xs, .bool xg] := (by have hk0 := HK2.out; refine Bk.below (D := _) ?_ hb3 (by have := hk0.lt; first | omega | (simp; omega)); exact (by repeat (first | with_reducible assumption | with_reducible exact Bk.at_ (by first | (simp; done) | omega) | with_reducible refine Bk.alloc ?_ _ | with_reducible refine Bk.drew ?_ | with_reducible refine Bk.drewN ?_ _ | with_reducible refine Bk.step (by with_reducible assumption) ?_ (by first | omega | (simp <;> omega))))); have hbw3 : Below w.heap.size w w3 := (by have hb0 := HB2.out; refine Below.trans ?_ (hb3.mono ?_); (exact (by repeat (first | with_reducible exact Below.refl _ _ | with_reducible assumption | with_reducible refine Below.drew ?_ | with_reducible refine Below.drewN ?_ _ | with_reducible refine Below.alloc2 ?_ _ | with_reducible refine Below.alloc ?_ (by first | omega | (simp <;> omega)) _ | with_reducible refine Below.setCell ?_ (by first | omega | (simp <;> omega)) _ | with_reducible refine Below.step2 (by with_reducible assumption) ?_ | with_reducible refine Below.step (by with_reducible assumption) ?_ (by first | omega | (simp <;> omega))))); (first | omega | (have := HB2.out.size; simp; omega))); have HB3 := Lib.hid hbw3; have HK3 := Lib.hid hk3; have ol3 := hk3.lt; obtain ⟨q3, r3, s3, t3, u3, v3⟩ := hk3.sixc; clear hk3 hbw3 hb3)
        | (go_at_call 12; refine (PF.out _ _ _ HRW3.out).mono ?_; rintro e w4 ⟨hb4, Ap, np, cp, rfl, hpost⟩; have HPP := Lib.hid hpost; clear hpost; have hk4 : Bk w4 w.heap.size 24 #[.int .i64 xd, .int .i64 xk, .string xp, .int .i64 xn, .bool xs, .bool xg] := (by have hk0 := HK3.out; refine Bk.below (D := _) ?_ hb4 (by have := hk0.lt; first | omega | (simp; omega)); exact (by repeat (first | with_reducible assumption | with_reducible exact Bk.at_ (by first | (simp; done) | omega) | with_reducible refine Bk.alloc ?_ _ | with_reducible refine Bk.drew ?_ | with_reducible refine Bk.drewN ?_ _ | with_reducible refine Bk.step (by with_reducible assumption) ?_ (by first | omega | (simp <;> omega))))); have hbw4 : Below w.heap.size w w4 := (by have hb0 := HB3.out; refine Below.trans ?_ (hb4.mono ?_); (exact (by repeat (first | with_reducible exact Below.refl _ _ | with_reducible assumption | with_reducible refine Below.drew ?_ | with_reducible refine Below.drewN ?_ _ | with_reducible refine Below.alloc2 ?_ _ | with_reducible refine Below.alloc ?_ (by first | omega | (simp <;> omega)) _ | with_reducible refine Below.setCell ?_ (by first | omega | (simp <;> omega)) _ | with_reducible refine Below.step2 (by with_reducible assumption) ?_ | with_reducible refine Below.step (by with_reducible assumption) ?_ (by first | omega | (simp <;> omega))))); (first | omega | (have := HB3.out.size; simp; omega))); have HB4 := Lib.hid hbw4; have HK4 := Lib.hid hk4; have ol4 := hk4.lt; obtain ⟨q4, r4, s4, t4, u4, v4⟩ := hk4.sixc; clear hk4 hbw4 hb4))
      refine region_goes (n := 9) (fun w' => w'.cell? ⟨w.heap.size, 0, none⟩ = some (.int .i64 xd) ∧ w'.cell? ⟨w.heap.size, 1, none⟩ = some (.int .i64 xk) ∧ w'.cell? ⟨w.heap.size, 2, none⟩ = some (.string xp) ∧ w'.cell? ⟨w.heap.size, 3, none⟩ = some (.int .i64 xn) ∧ w'.cell? ⟨w.heap.size, 4, none⟩ = some (.bool xs) ∧ w'.cell? ⟨w.heap.size, 5, none⟩ = some (.bool xg)) [] (by kernel_rfl) rfl ?_
      have HS4 := Lib.hid (Bk.drew HK4.out).sixc
      refine goes_takeE (i := 0) (E := []) (v := .slice A n c) rfl (by kernel_rfl) rfl (fun _ _ _ h => h) (by intro w' hw'; obtain ⟨z0, z1, z2, z3, z4, z5⟩ := hw'; go_simp) HS4.out ?_
      refine goes_takeE (i := 2) (E := []) (v := .agg #[.int .i64 xd, .int .i64 xk, .string xp, .int .i64 xn, .bool xs, .bool xg]) rfl (by kernel_rfl) rfl (fun _ _ _ h => h) (by intro w' hw'; obtain ⟨z0, z1, z2, z3, z4, z5⟩ := hw'; go_simp) HS4.out ?_
      refine goes_call (i := 1) rfl (by kernel_rfl) ?_
      go_wp2_with (go_at_call 13; refine (CP.out _ (by have hb0 := HB4.out; exact (by repeat (first | with_reducible exact Below.refl _ _ | with_reducible assumption | with_reducible refine Below.drew ?_ | with_reducible refine Below.drewN ?_ _ | with_reducible refine Below.alloc2 ?_ _ | with_reducible refine Below.alloc ?_ (by first | omega | (simp <;> omega)) _ | with_reducible refine Below.setCell ?_ (by first | omega | (simp <;> omega)) _ | with_reducible refine Below.step2 (by with_reducible assumption) ?_ | with_reducible refine Below.step (by with_reducible assumption) ?_ (by first | omega | (simp <;> omega)))))).mono ?_; rintro e w5 ⟨hb5, v, rfl, hown⟩; obtain ⟨A2, c2, rfl, hr⟩ := Rws.of_own hown HLEN.out; have HRW5 := Lib.hid hr; clear hown hr; have HC5 : Hid (Below w4.heap.size w4 w5) := Lib.hid (by have hb0 := Below.refl w4.heap.size w4; refine Below.trans ?_ (hb5.mono ?_); (exact (by repeat (first | with_reducible exact Below.refl _ _ | with_reducible assumption | with_reducible refine Below.drew ?_ | with_reducible refine Below.drewN ?_ _ | with_reducible refine Below.alloc2 ?_ _ | with_reducible refine Below.alloc ?_ (by first | omega | (simp <;> omega)) _ | with_reducible refine Below.setCell ?_ (by first | omega | (simp <;> omega)) _ | with_reducible refine Below.step2 (by with_reducible assumption) ?_ | with_reducible refine Below.step (by with_reducible assumption) ?_ (by first | omega | (simp <;> omega))))); (first | omega | (simp; omega) | simp)); have hk5 : Bk w5 w.heap.size 24 #[.int .i64 xd, .int .i64 xk, .string xp, .int .i64 xn, .bool xs, .bool xg] := (by have hk0 := HK4.out; refine Bk.below (D := _) ?_ hb5 (by have := hk0.lt; first | omega | (simp; omega)); exact (by repeat (first | with_reducible assumption | with_reducible exact Bk.at_ (by first | (simp; done) | omega) | with_reducible refine Bk.alloc ?_ _ | with_reducible refine Bk.drew ?_ | with_reducible refine Bk.drewN ?_ _ | with_reducible refine Bk.step (by with_reducible assumption) ?_ (by first | omega | (simp <;> omega))))); have hbw5 : Below w.heap.size w w5 := (by have hb0 := HB4.out; refine Below.trans ?_ (hb5.mono ?_); (exact (by repeat (first | with_reducible exact Below.refl _ _ | with_reducible assumption | with_reducible refine Below.drew ?_ | with_reducible refine Below.drewN ?_ _ | with_reducible refine Below.alloc2 ?_ _ | with_reducible refine Below.alloc ?_ (by first | omega | (simp <;> omega)) _ | with_reducible refine Below.setCell ?_ (by first | omega | (simp <;> omega)) _ | with_reducible refine Below.step2 (by with_reducible assumption) ?_ | with_reducible refine Below.step (by with_reducible assumption) ?_ (by first | omega | (simp <;> omega))))); (first | omega | (have := HB4.out.size; simp; omega))); have HB5 := Lib.hid hbw5; have HK5 := Lib.hid hk5; have ol5 := hk5.lt; obtain ⟨q5, r5, s5, t5, u5, v5⟩ := hk5.sixc; clear hk5 hbw5 hb5)
      refine behind_ok ⟨HK5.out.sixc, ?_⟩
      refine goes_call (i := 3) rfl (by kernel_rfl) ?_
      go_wp2_with (go_at_call 14; refine (AD.out _ _ _ HRW5.out).mono ?_; rintro e w6 ⟨hb6, A3, n3, c3, rfl, hpost⟩; have HPA := Lib.hid hpost; clear hpost; have HC6 : Hid (Below w4.heap.size w4 w6) := Lib.hid (HC5.out.trans (hb6.mono HC5.out.size)); have hk6 : Bk w6 w.heap.size 24 #[.int .i64 xd, .int .i64 xk, .string xp, .int .i64 xn, .bool xs, .bool xg] := (by have hk0 := HK5.out; refine Bk.below (D := _) ?_ hb6 (by have := hk0.lt; first | omega | (simp; omega)); exact (by repeat (first | with_reducible assumption | with_reducible exact Bk.at_ (by first | (simp; done) | omega) | with_reducible refine Bk.alloc ?_ _ | with_reducible refine Bk.drew ?_ | with_reducible refine Bk.drewN ?_ _ | with_reducible refine Bk.step (by with_reducible assumption) ?_ (by first | omega | (simp <;> omega))))); have hbw6 : Below w.heap.size w w6 := (by have hb0 := HB5.out; refine Below.trans ?_ (hb6.mono ?_); (exact (by repeat (first | with_reducible exact Below.refl _ _ | with_reducible assumption | with_reducible refine Below.drew ?_ | with_reducible refine Below.drewN ?_ _ | with_reducible refine Below.alloc2 ?_ _ | with_reducible refine Below.alloc ?_ (by first | omega | (simp <;> omega)) _ | with_reducible refine Below.setCell ?_ (by first | omega | (simp <;> omega)) _ | with_reducible refine Below.step2 (by with_reducible assumption) ?_ | with_reducible refine Below.step (by with_reducible assumption) ?_ (by first | omega | (simp <;> omega))))); (first | omega | (have := HB5.out.size; simp; omega))); have HB6 := Lib.hid hbw6; have HK6 := Lib.hid hk6; have ol6 := hk6.lt; obtain ⟨q6, r6, s6, t6, u6, v6⟩ := hk6.sixc; clear hk6 hbw6 hb6)
      have HS6 := Lib.hid HK6.out.sixc
      refine behind_ok ⟨HS6.out, ?_⟩
      refine goes_takeE (i := 4) (E := []) (v := .tuple #[.slice A3 n3 c3, .int .i64 G]) rfl (by kernel_rfl) rfl (fun _ _ _ h => h) (by intro w' hw'; obtain ⟨z0, z1, z2, z3, z4, z5⟩ := hw'; go_simp) HS6.out ?_
      refine goes_takeE (i := 5) (E := []) (v := .slice A3 n3 c3) rfl (by kernel_rfl) rfl (fun _ _ _ h => h) (by intro w' hw'; obtain ⟨z0, z1, z2, z3, z4, z5⟩ := hw'; go_simp) HS6.out ?_
      refine goes_takeE (i := 6) (E := []) (v := .int .i64 G) rfl (by kernel_rfl) rfl (fun _ _ _ h => h) (by intro w' hw'; obtain ⟨z0, z1, z2, z3, z4, z5⟩ := hw'; go_simp) HS6.out ?_
      refine goes_takeE (i := 7) (E := []) (v := .slice A3 n3 c3) rfl (by kernel_rfl) rfl (fun _ _ _ h => h) (by intro w' hw'; obtain ⟨z0, z1, z2, z3, z4, z5⟩ := hw'; go_simp) HS6.out ?_
      refine goes_takeE (i := 8) (E := []) (v := .int .i64 G) rfl (by kernel_rfl) rfl (fun _ _ _ h => h) (by intro w' hw'; obtain ⟨z0, z1, z2, z3, z4, z5⟩ := hw'; go_simp) HS6.out ?_
      refine goes_done (by kernel_rfl) ?_
      (obtain rfl := HPP.out; obtain rfl := HPA.out; have HD6 := Lib.hid (Below.refl w6.heap.size w6); go_wp2_with (first | (go_at_call 15; refine (CR.out _ _ _ HRW7.out).mono ?_; rintro e w8 ⟨hb8, rfl⟩; have HM8 := Lib.hid hb8; have HD8 : Hid (Below w6.heap.size w6 w8) := Lib.hid (by have hb0 := HD7.out; refine Below.trans ?_ (hb8.mono ?_); (exact (by repeat (first | with_reducible exact Below.refl _ _ | with_reducible assumption | with_reducible refine Below.drew ?_ | with_reducible refine Below.drewN ?_ _ | with_reducible refine Below.alloc2 ?_ _ | with_reducible refine Below.alloc ?_ (by first | omega | (simp <;> omega)) _ | with_reducible refine Below.setCell ?_ (by first | omega | (simp <;> omega)) _ | with_reducible refine Below.step2 (by with_reducible assumption) ?_ | with_reducible refine Below.step (by with_reducible assumption) ?_ (by first | omega | (simp <;> omega))))); (first | omega | (have := HD7.out.size; simp; omega))); have HB8 := Lib.hid (Below.step2 HD8.out HB6.out); have HK8 := Lib.hid (HK6.out.below HD8.out HK6.out.lt); have ol8 := HK8.out.lt; clear hb8) | (go_at_call 13; refine (CP.out _ HB6.out).mono ?_; rintro e w7 ⟨hb7, v, rfl, hown⟩; obtain ⟨A4, c4, rfl, hr⟩ := Rws.of_own hown HLEN.out; have HRW7 := Lib.hid hr; clear hown hr; have HM7 := Lib.hid hb7; have HD7 : Hid (Below w6.heap.size w6 w7) := Lib.hid (by have hb0 := HD6.out; refine Below.trans ?_ (hb7.mono ?_); (exact (by repeat (first | with_reducible exact Below.refl _ _ | with_reducible assumption | with_reducible refine Below.drew ?_ | with_reducible refine Below.drewN ?_ _ | with_reducible refine Below.alloc2 ?_ _ | with_reducible refine Below.alloc ?_ (by first | omega | (simp <;> omega)) _ | with_reducible refine Below.setCell ?_ (by first | omega | (simp <;> omega)) _ | with_reducible refine Below.step2 (by with_reducible assumption) ?_ | with_reducible refine Below.step (by with_reducible assumption) ?_ (by first | omega | (simp <;> omega))))); (first | omega | (have := HD6.out.size; simp; omega))); have HB7 := Lib.hid (Below.step2 HD7.out HB6.out); have HK7 := Lib.hid (HK6.out.below HD7.out HK6.out.lt); have ol7 := HK7.out.lt; clear hb7)); go_ret; exact ⟨HB8.out, rfl⟩))

end Go.Proofs.Ytgjjjnofdjhikaa
