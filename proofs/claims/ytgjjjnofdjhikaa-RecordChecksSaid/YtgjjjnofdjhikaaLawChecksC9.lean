/- The law RecordChecks, for records without a fault and an event without one. -/
import Derived.Test.YtgjjjnofdjhikaaLawChecks9
namespace Go.Proofs.Ytgjjjnofdjhikaa
open Go Go.RowKit Go.WideShapes Go.Proofs.Ytgjjjnofdjhikaa.Sim

set_option maxRecDepth 100000 in
set_option maxHeartbeats 16000000 in
theorem lawChecks_okG (A : Option Addr) (n c : Nat) (l : List Ev) (xd xk xn : Int) (xp : ByteArray) (xs xg : Bool) (w : World) (h : Rws Ev.cs 6 w w.heap.size A n c l) (hl : shB l = true) (hp : xp.size ≤ 30) (ho : ∀ x ∈ l, evOk x) (hx : evOk (⟨xd, xk, xp, xn, xs, xg⟩ : Ev)) (hE : recErr l = 0) (h0 : recErr (l ++ [(⟨xd, xk, xp, xn, xs, xg⟩ : Ev)]) = 0) :
    Calls Try.prog 3 #[.slice A n c, .agg #[.int .i64 xd, .int .i64 xk, .string xp, .int .i64 xn, .bool xs, .bool xg]] w fun e w' => Below w.heap.size w w' ∧ e = .returned (.bool true) := by
  have hcap := h.cap
  have hmax := h.max
  have HLEN := Lib.hid h.len
  have H : Hid (∀ W, Below w.heap.size w W → Rws Ev.cs 6 W W.heap.size A n c l) := fun W hW => h.below hW (Nat.le_refl _) hW.size
  have hn405 := (shB_facts hl).1
  rw [HLEN.out] at hn405
  have hs : n ≤ 400 → ∀ x ∈ l, x.p.size ≤ 30 := fun hq => (shB_facts hl).2 (by rw [HLEN.out]; exact hq)
  have SH : Hid (∀ W, Below w.heap.size w W → Calls Try.prog 10 #[.slice A n c] W fun e w' => W = w' ∧ e = .returned (.bool true)) := Lib.hid fun W hW => by
    have := short_any A n c _ l W (H.out W hW)
    rwa [hl] at this
  have CP : Hid (∀ W, Below w.heap.size w W → Calls Try.prog 13 #[.slice A n c] W fun e w' => Below W.heap.size W w' ∧ ∃ v, e = .returned v ∧ w'.ownsRow W.heap.size 24 6 v n (l.flatMap Ev.cs)) := Lib.hid fun W hW =>
    copied_any A n c l W (H.out W hW) (by omega)
  obtain ⟨D, hD⟩ : ∃ D, recErr l = D := ⟨_, rfl⟩
  have RC : Hid (∀ W, Below w.heap.size w W → Calls Try.prog 11 #[.slice A n c] W fun e w' => Below W.heap.size W w' ∧ e = .returned (.int .i64 D)) := Lib.hid fun W hW => by
    have := refCheckRec_all A n c l W (H.out W hW) hs
    rwa [hD] at this
  have CR : Hid (∀ A c W, Rws Ev.cs 6 W W.heap.size A n c l → Calls Try.prog 15 #[.slice A n c] W fun e w' => Below W.heap.size W w' ∧ e = .returned (.int .i64 D)) := Lib.hid fun A c W hW => by
    have := checkRec_all A n c l W hW hs ho
    rwa [hD] at this
  rw [hD] at hE
  have hn400 : n ≤ 400 := by have := recErr_small (hD.trans hE); rwa [HLEN.out] at this
  obtain ⟨R, hR⟩ : ∃ R, platsR l = R := ⟨_, rfl⟩
  have PF : Hid (∀ A c W, Rws Ev.cs 6 W W.heap.size A n c l → Calls Try.prog 12 #[.slice A n c] W fun e w' => Below W.heap.size W w' ∧ ∃ A2 n2 c2, e = .returned (.tuple #[.slice A2 n2 c2, .int .i64 D]) ∧ n2 = R.length ∧ Rws tx 1 w' w'.heap.size A2 R.length c2 R) := Lib.hid fun A c W hW => by
    rw [hE, ← hR]
    refine (platforms_ok A n c l W hW (hs hn400) ho (hD.trans hE)).mono ?_
    rintro e w' ⟨hb, v, rfl, hown⟩
    obtain ⟨A2, c2, rfl, hr⟩ := tx_own hown rfl
    exact ⟨hb, _, _, _, rfl, rfl, hr⟩
  have RP : Hid (∀ W, Below w.heap.size w W → Calls Try.prog 17 #[.slice A n c] W fun e w' => Below W.heap.size W w' ∧ ∃ v, e = .returned v ∧ w'.ownsRow W.heap.size 9 1 v R.length (Ss R)) := Lib.hid fun W hW => by
    have := refPlatforms_any A n c l W (H.out W hW) (by omega)
    rwa [hR] at this
  have hRL : R.length ≤ 400 := by
    have := platsR_len l n
    rw [List.take_of_length_le (by rw [HLEN.out]; omega), hR] at this
    omega
  obtain ⟨G, hG⟩ : ∃ G, recErr (l ++ [(⟨xd, xk, xp, xn, xs, xg⟩ : Ev)]) = G := ⟨_, rfl⟩
  have HL2 : Hid ((l ++ [(⟨xd, xk, xp, xn, xs, xg⟩ : Ev)]).length = n + 1) := Lib.hid (by simp [HLEN.out])
  have RC2 : Hid (∀ A c W, Rws Ev.cs 6 W W.heap.size A (n + 1) c (l ++ [(⟨xd, xk, xp, xn, xs, xg⟩ : Ev)]) → Calls Try.prog 11 #[.slice A (n + 1) c] W fun e w' => Below W.heap.size W w' ∧ e = .returned (.int .i64 G)) := Lib.hid fun A c W hW => by
    have := refCheckRec_all A (n + 1) c _ W hW (fun _ y hy => by
      rcases List.mem_append.1 hy with h1 | h1
      · exact hs hn400 y h1
      · rw [List.mem_singleton.1 h1]; exact hp)
    rwa [hG] at this
  have AD0 := fun (A : Option Addr) (c : Nat) (W : World) (hW : Rws Ev.cs 6 W W.heap.size A n c l) => add_ok A n c l xd xk xn xp xs xg W hW (hs hn400) ho (hD.trans hE) hp hx G hG
  have hD0 : (D == 0) = true := by simpa using hE
  have hD1 : (D != 0) = false := by simpa using hE
  rw [hG] at h0
  have AD : Hid (∀ A c W, Rws Ev.cs 6 W W.heap.size A n c l → Calls Try.prog 14 #[.slice A n c, .agg #[.int .i64 xd, .int .i64 xk, .string xp, .int .i64 xn, .bool xs, .bool xg]] W fun e w' => Below W.heap.size W w' ∧ ∃ A2 n2 c2, e = .returned (.tuple #[.slice A2 n2 c2, .int .i64 G]) ∧ n2 = n + 1 ∧ Rws Ev.cs 6 w' w'.heap.size A2 (n + 1) c2 (l ++ [(⟨xd, xk, xp, xn, xs, xg⟩ : Ev)])) := Lib.hid fun A c W hW =>
    (AD0 A c W hW).mono fun e w' ⟨hb, A', c', he, hr⟩ => ⟨hb, A', n + 1, c', by rw [he, if_pos h0], rfl, hr⟩
  have hG0 : (G == 0) = true := by simpa using h0
  have hG1 : (G != 0) = false := by simpa using h0
  clear AD0 h hl hs ho hx hE hD hG h0 hR
  (
      go_enter Try.func3, Try.ntmps3
      go_upto_region 7 with (first
        | (go_at_call 9; refine (awake_true _).mono ?_; rintro e w1 ⟨hb1, rfl⟩; have hk1 : Bk w1 w.heap.size 24 #[.int .i64 xd, .int .i64 xk, .string xp, .int .i64 xn, .bool xs, .bool xg] := (by refine Bk.below (D := _) ?_ hb1 (by simp); exact (by repeat (first | with_reducible assumption | with_reducible exact Bk.at_ (by first | (simp; done) | omega) | with_reducible refine Bk.alloc ?_ _ | with_reducible refine Bk.drew ?_ | with_reducible refine Bk.drewN ?_ _ | with_reducible refine Bk.step (by with_reducible assumption) ?_ (by first | omega | (simp <;> omega))))); have hbw : Below w.heap.size w w1 := ((Below.refl _ w).alloc (Nat.le_refl _) _).trans (hb1.mono (by simp)); have HB1 := Lib.hid hbw; have HK1 := Lib.hid hk1; have ol1 := hk1.lt; obtain ⟨q1, r1, s1, t1, u1, v1⟩ := hk1.sixc; clear hk1 hb1 hbw)
        | (go_at_call 10; refine (SH.out _ HB1.out).mono ?_; rintro e w' ⟨rfl, rfl⟩)
        | (go_at_call 11; refine (RC.out _ HB1.out).mono ?_; rintro e w2 ⟨hb2, rfl⟩; have hk2 : Bk w2 w.heap.size 24 #[.int .i64 xd, .int .i64 xk, .string xp, .int .i64 xn, .bool xs, .bool xg] := (by have hk0 := HK1.out; refine Bk.below (D := _) ?_ hb2 (by have := hk0.lt; first | omega | (simp; omega)); exact (by repeat (first | with_reducible assumption | with_reducible exact Bk.at_ (by first | (simp; done) | omega) | with_reducible refine Bk.alloc ?_ _ | with_reducible refine Bk.drew ?_ | with_reducible refine Bk.drewN ?_ _ | with_reducible refine Bk.step (by with_reducible assumption) ?_ (by first | omega | (simp <;> omega))))); have hbw2 : Below w.heap.size w w2 := (by have hb0 := HB1.out; refine Below.trans ?_ (hb2.mono ?_); (exact (by repeat (first | with_reducible exact Below.refl _ _ | with_reducible assumption | with_reducible refine Below.drew ?_ | with_reducible refine Below.drewN ?_ _ | with_reducible refine Below.alloc2 ?_ _ | with_reducible refine Below.alloc ?_ (by first | omega | (simp <;> omega)) _ | with_reducible refine Below.setCell ?_ (by first | omega | (simp <;> omega)) _ | with_reducible refine Below.step2 (by with_reducible assumption) ?_ | with_reducible refine Below.step (by with_reducible assumption) ?_ (by first | omega | (simp <;> omega))))); (first | omega | (have := HB1.out.size; simp; omega))); have HB2 := Lib.hid hbw2; have HK2 := Lib.hid hk2; have ol2 := hk2.lt; obtain ⟨q2, r2, s2, t2, u2, v2⟩ := hk2.sixc; clear hk2 hbw2 hb2)
        | (go_at_call 13; refine (CP.out _ HB2.out).mono ?_; rintro e w3 ⟨hb3, v, rfl, hown⟩; obtain ⟨A1, c1, rfl, hr⟩ := Rws.of_own hown HLEN.out; have HRW3 := Lib.hid hr; clear hown hr; have hk3 : Bk w3 w.heap.size 24 #[.int .i64 xd, .int .i64 xk, .string xp, .int .i64 xn, .bool xs, .bool xg] := (by have hk0 := HK2.out; refine Bk.below (D := _) ?_ hb3 (by have := hk0.lt; first | omega | (simp; omega)); exact (by repeat (first | with_reducible assumption | with_reducible exact Bk.at_ (by first | (simp; done) | omega) | with_reducible refine Bk.alloc ?_ _ | with_reducible refine Bk.drew ?_ | with_reducible refine Bk.drewN ?_ _ | with_reducible refine Bk.step (by with_reducible assumption) ?_ (by first | omega | (simp <;> omega))))); have hbw3 : Below w.heap.size w w3 := (by have hb0 := HB2.out; refine Below.trans ?_ (hb3.mono ?_); (exact (by repeat (first | with_reducible exact Below.refl _ _ | with_reducible assumption | with_reducible refine Below.drew ?_ | with_reducible refine Below.drewN ?_ _ | with_reducible refine Below.alloc2 ?_ _ | with_reducible refine Below.alloc ?_ (by first | omega | (simp <;> omega)) _ | with_reducible refine Below.setCell ?_ (by first | omega | (simp <;> omega)) _ | with_reducible refine Below.step2 (by with_reducible assumption) ?_ | with_reducible refine Below.step (by with_reducible assumption) ?_ (by first | omega | (simp <;> omega))))); (first | omega | (have := HB2.out.size; simp; omega))); have HB3 := Lib.hid hbw3; have HK3 := Lib.hid hk3; have ol3 := hk3.lt; obtain ⟨q3, r3, s3, t3, u3, v3⟩ := hk3.sixc; clear hk3 hbw3 hb3)
        | (go_at_call 12; refine (PF.out _ _ _ HRW3.out).mono ?_; rintro e w4 ⟨hb4, Ap, np, cp, rfl, hpost⟩; have HPP := Lib.hid hpost; clear hpost; have hk4 : Bk w4 w.heap.size 24 #[.int .i64 xd, .int .i64 xk, .string xp, .int .i64 xn, .bool xs, .bool xg] := (by have hk0 := HK3.out; refine Bk.below (D := _) ?_ hb4 (by have := hk0.lt; first | omega | (simp; omega)); exact (by repeat (first | with_reducible assumption | with_reducible exact Bk.at_ (by first | (simp; done) | omega) | with_reducible refine Bk.alloc ?_ _ | with_reducible refine Bk.drew ?_ | with_reducible refine Bk.drewN ?_ _ | with_reducible refine Bk.step (by with_reducible assumption) ?_ (by first | omega | (simp <;> omega))))); have hbw4 : Below w.heap.size w w4 := (by have hb0 := HB3.out; refine Below.trans ?_ (hb4.mono ?_); (exact (by repeat (first | with_reducible exact Below.refl _ _ | with_reducible assumption | with_reducible refine Below.drew ?_ | with_reducible refine Below.drewN ?_ _ | with_reducible refine Below.alloc2 ?_ _ | with_reducible refine Below.alloc ?_ (by first | omega | (simp <;> omega)) _ | with_reducible refine Below.setCell ?_ (by first | omega | (simp <;> omega)) _ | with_reducible refine Below.step2 (by with_reducible assumption) ?_ | with_reducible refine Below.step (by with_reducible assumption) ?_ (by first | omega | (simp <;> omega))))); (first | omega | (have := HB3.out.size; simp; omega))); have HB4 := Lib.hid hbw4; have HK4 := Lib.hid hk4; have ol4 := hk4.lt; obtain ⟨q4, r4, s4, t4, u4, v4⟩ := hk4.sixc; clear hk4 hbw4 hb4))
      refine region_goes (n := 9) (fun w' => w'.cell? ⟨w.heap.size, 0, none⟩ = some (.int .i64 xd) ∧ w'.cell? ⟨w.heap.size, 1, none⟩ = some (.int .i64 xk) ∧ w'.cell? ⟨w.heap.size, 2, none⟩ = some (.string xp) ∧ w'.cell? ⟨w.heap.size, 3, none⟩ = some (.int .i64 xn) ∧ w'.cell? ⟨w.heap.size, 4, none⟩ = some (.bool xs) ∧ w'.cell? ⟨w.heap.size, 5, none⟩ = some (.bool xg)) [] (by kernel_rfl) rfl ?_
      have HS4 := Lib.hid (Bk.drew HK4.out).sixc
      refine goes_takeE (i := 0) (E := []) (v := .slice A n c) rfl (by kernel_rfl) rfl (fun _ _ _ h => h) (by intro w' hw'; obtain ⟨z0, z1, z2, z3, z4, z5⟩ := hw'; go_simp) HS4.out ?_
      refine goes_takeE (i := 2) (E := []) (v := .agg #[.int .i64 xd, .int .i64 xk, .string xp, .int .i64 xn, .bool xs, .bool xg]) rfl (by kernel_rfl) rfl (fun _ _ _ h => h) (by intro w' hw'; obtain ⟨z0, z1, z2, z3, z4, z5⟩ := hw'; go_simp) HS4.out ?_
      refine goes_call (i := 1) rfl (by kernel_rfl) ?_
      go_wp2_with (go_at_call 13; refine (CP.out _ (by have hb0 := HB4.out; exact (by repeat (first | with_reducible exact Below.refl _ _ | with_reducible assumption | with_reducible refine Below.drew ?_ | with_reducible refine Below.drewN ?_ _ | with_reducible refine Below.alloc2 ?_ _ | with_reducible refine Below.alloc ?_ (by first | omega | (simp <;> omega)) _ | with_reducible refine Below.setCell ?_ (by first | omega | (simp <;> omega)) _ | with_reducible refine Below.step2 (by with_reducible assumption) ?_ | with_reducible refine Below.step (by with_reducible assumption) ?_ (by first | omega | (simp <;> omega)))))).mono ?_; rintro e w5 ⟨hb5, v, rfl, hown⟩; obtain ⟨A2, c2, rfl, hr⟩ := Rws.of_own hown HLEN.out; have HRW5 := Lib.hid hr; clear hown hr; have HC5 : Hid (Below w4.heap.size w4 w5) := Lib.hid (by have hb0 := Below.refl w4.heap.size w4; refine Below.trans ?_ (hb5.mono ?_); (exact (by repeat (first | with_reducible exact Below.refl _ _ | with_reducible assumption | with_reducible refine Below.drew ?_ | with_reducible refine Below.drewN ?_ _ | with_reducible refine Below.alloc2 ?_ _ | with_reducible refine Below.alloc ?_ (by first | omega | (simp <;> omega)) _ | with_reducible refine Below.setCell ?_ (by first | omega | (simp <;> omega)) _ | with_reducible refine Below.step2 (by with_reducible assumption) ?_ | with_reducible refine Below.step (by with_reducible assumption) ?_ (by first | omega | (simp <;> omega))))); (first | omega | (simp; omega) | simp)); have hk5 : Bk w5 w.heap.size 24 #[.int .i64 xd, .int .i64 xk, .string xp, .int .i64 xn, .bool xs, .bool xg] := (by have hk0 := HK4.out; refine Bk.below (D := _) ?_ hb5 (by have := hk0.lt; first | omega | (simp; omega)); exact (by repeat (first | with_reducible assumption | with_reducible exact Bk.at_ (by first | (simp; done) | omega) | with_reducible refine Bk.alloc ?_ _ | with_reducible refine Bk.drew ?_ | with_reducible refine Bk.drewN ?_ _ | with_reducible refine Bk.step (by with_reducible assumption) ?_ (by first | omega | (simp <;> omega))))); have hbw5 : Below w.heap.size w w5 := (by have hb0 := HB4.out; refine Below.trans ?_ (hb5.mono ?_); (exact (by repeat (first | with_reducible exact Below.refl _ _ | with_reducible assumption | with_reducible refine Below.drew ?_ | with_reducible refine Below.drewN ?_ _ | with_reducible refine Below.alloc2 ?_ _ | with_reducible refine Below.alloc ?_ (by first | omega | (simp <;> omega)) _ | with_reducible refine Below.setCell ?_ (by first | omega | (simp <;> omega)) _ | with_reducible refine Below.step2 (by with_reducible assumption) ?_ | with_reducible refine Below.step (by with_reducible assumption) ?_ (by first | omega | (simp <;> omega))))); (first | omega | (have := HB4.out.size; simp; omega))); have HB5 := Lib.hid hbw5; have HK5 := Lib.hid hk5; have ol5 := hk5.lt; obtain ⟨q5, r5, s5, t5, u5, v5⟩ := hk5.sixc; clear hk5 hbw5 hb5)
      refine behind_ok ⟨HK5.out.sixc, ?_⟩
      refine goes_call (i := 3) rfl (by kernel_rfl) ?_
      go_wp2_with (go_at_call 14; refine (AD.out _ _ _ HRW5.out).mono ?_; rintro e w6 ⟨hb6, A3, n3, c3, rfl, hpost⟩; have HPA := Lib.hid hpost; clear hpost; have HC6 : Hid (Below w4.heap.size w4 w6) := Lib.hid (HC5.out.trans (hb6.mono HC5.out.size)); have hk6 : Bk w6 w.heap.size 24 #[.int .i64 xd, .int .i64 xk, .string xp, .int .i64 xn, .bool xs, .bool xg] := (by have hk0 := HK5.out; refine Bk.below (D := _) ?_ hb6 (by have := hk0.lt; first | omega | (simp; omega)); exact (by repeat (first | with_reducible assumption | with_reducible exact Bk.at_ (by first | (simp; done) | omega) | with_reducible refine Bk.alloc ?_ _ | with_reducible refine Bk.drew ?_ | with_reducible refine Bk.drewN ?_ _ | with_reducible refine Bk.step (by with_reducible assumption) ?_ (by first | omega | (simp <;> omega))))); have hbw6 : Below w.heap.size w w6 := (by have hb0 := HB5.out; refine Below.trans ?_ (hb6.mono ?_); (exact (by repeat (first | with_reducible exact Below.refl _ _ | with_reducible assumption | with_reducible refine Below.drew ?_ | with_reducible refine Below.drewN ?_ _ | with_reducible refine Below.alloc2 ?_ _ | with_reducible refine Below.alloc ?_ (by first | omega | (simp <;> omega)) _ | with_reducible refine Below.setCell ?_ (by first | omega | (simp <;> omega)) _ | with_reducible refine Below.step2 (by with_reducible assumption) ?_ | with_reducible refine Below.step (by with_reducible assumption) ?_ (by first | omega | (simp <;> omega))))); (first | omega | (have := HB5.out.size; simp; omega))); have HB6 := Lib.hid hbw6; have HK6 := Lib.hid hk6; have ol6 := hk6.lt; obtain ⟨q6, r6, s6, t6, u6, v6⟩ := hk6.sixc; clear hk6 hbw6 hb6)
      have HS6 := Lib.hid HK6.out.sixc
      refine behind_ok ⟨HS6.out, ?_⟩
      refine goes_takeE (i := 4) (E := []) (v := .tuple #[.slice A3 n3 c3, .int .i64 G]) rfl (by kernel_rfl) rfl (fun _ _ _ h => h) (by intro w' hw'; obtain ⟨z0, z1, z2, z3, z4, z5⟩ := hw'; go_simp) HS6.out ?_
      refine goes_takeE (i := 5) (E := []) (v := .slice A3 n3 c3) rfl (by kernel_rfl) rfl (fun _ _ _ h => h) (by intro w' hw'; obtain ⟨z0, z1, z2, z3, z4, z5⟩ := hw'; go_simp) HS6.out ?_
      refine goes_takeE (i := 6) (E := []) (v := .int .i64 G) rfl (by kernel_rfl) rfl (fun _ _ _ h => h) (by intro w' hw'; obtain ⟨z0, z1, z2, z3, z4, z5⟩ := hw'; go_simp) HS6.out ?_
      refine goes_takeE (i := 7) (E := []) (v := .slice A3 n3 c3) rfl (by kernel_rfl) rfl (fun _ _ _ h => h) (by intro w' hw'; obtain ⟨z0, z1, z2, z3, z4, z5⟩ := hw'; go_simp) HS6.out ?_
      refine goes_takeE (i := 8) (E := []) (v := .int .i64 G) rfl (by kernel_rfl) rfl (fun _ _ _ h => h) (by intro w' hw'; obtain ⟨z0, z1, z2, z3, z4, z5⟩ := hw'; go_simp) HS6.out ?_
      refine goes_done (by kernel_rfl) ?_
      (obtain ⟨rfl, hra⟩ := HPA.out
       have HRA := Lib.hid hra
       clear hra HPA
       obtain ⟨rfl, hrp⟩ := HPP.out
       have HRP := Lib.hid hrp
       clear hrp HPP
       have HD6 := Lib.hid (Below.refl w6.heap.size w6)
       go_upto_region 16 with (first | (go_at_call 16; refine (texts_eq Ap Aq R.length cp cq R _ (HRP.out.below HC9.out (Nat.le_refl _) HC9.out.size) HRQ.out).mono ?_; rintro e w10 ⟨hb10, rfl⟩; have HM10 := Lib.hid hb10; have HD10 : Hid (Below w6.heap.size w6 w10) := Lib.hid (by have hb0 := HD9.out; refine Below.trans ?_ (hb10.mono ?_); (exact (by repeat (first | with_reducible exact Below.refl _ _ | with_reducible assumption | with_reducible refine Below.drew ?_ | with_reducible refine Below.drewN ?_ _ | with_reducible refine Below.alloc2 ?_ _ | with_reducible refine Below.alloc ?_ (by first | omega | (simp <;> omega)) _ | with_reducible refine Below.setCell ?_ (by first | omega | (simp <;> omega)) _ | with_reducible refine Below.step2 (by with_reducible assumption) ?_ | with_reducible refine Below.step (by with_reducible assumption) ?_ (by first | omega | (simp <;> omega))))); (first | omega | (have := HD9.out.size; simp; omega))); have HB10 := Lib.hid (Below.step2 HD10.out HB6.out); have HK10 := Lib.hid (HK6.out.below HD10.out HK6.out.lt); have ol10 := HK10.out.lt; clear hb10) | (go_at_call 17; refine (RP.out _ (by have hb0 := HB8.out; exact (by repeat (first | with_reducible exact Below.refl _ _ | with_reducible assumption | with_reducible refine Below.drew ?_ | with_reducible refine Below.drewN ?_ _ | with_reducible refine Below.alloc2 ?_ _ | with_reducible refine Below.alloc ?_ (by first | omega | (simp <;> omega)) _ | with_reducible refine Below.setCell ?_ (by first | omega | (simp <;> omega)) _ | with_reducible refine Below.step2 (by with_reducible assumption) ?_ | with_reducible refine Below.step (by with_reducible assumption) ?_ (by first | omega | (simp <;> omega)))))).mono ?_; rintro e w9 ⟨hb9, v, rfl, hown⟩; obtain ⟨Aq, cq, rfl, hr⟩ := tx_own hown rfl; have HRQ := Lib.hid hr; clear hown hr; have HM9 := Lib.hid hb9; have HD9 : Hid (Below w6.heap.size w6 w9) := Lib.hid (by have hb0 := HD8.out; refine Below.trans ?_ (hb9.mono ?_); (exact (by repeat (first | with_reducible exact Below.refl _ _ | with_reducible assumption | with_reducible refine Below.drew ?_ | with_reducible refine Below.drewN ?_ _ | with_reducible refine Below.alloc2 ?_ _ | with_reducible refine Below.alloc ?_ (by first | omega | (simp <;> omega)) _ | with_reducible refine Below.setCell ?_ (by first | omega | (simp <;> omega)) _ | with_reducible refine Below.step2 (by with_reducible assumption) ?_ | with_reducible refine Below.step (by with_reducible assumption) ?_ (by first | omega | (simp <;> omega))))); (first | omega | (have := HD8.out.size; simp; omega))); have HB9 := Lib.hid (Below.step2 HD9.out HB6.out); have HK9 := Lib.hid (HK6.out.below HD9.out HK6.out.lt); have ol9 := HK9.out.lt; clear hb9; have HC9 : Hid (Below w4.heap.size w4 w9) := Lib.hid (HC6.out.trans (HD9.out.mono HC6.out.size))) | (go_at_call 15; refine (CR.out _ _ _ HRW7.out).mono ?_; rintro e w8 ⟨hb8, rfl⟩; have HM8 := Lib.hid hb8; have HD8 : Hid (Below w6.heap.size w6 w8) := Lib.hid (by have hb0 := HD7.out; refine Below.trans ?_ (hb8.mono ?_); (exact (by repeat (first | with_reducible exact Below.refl _ _ | with_reducible assumption | with_reducible refine Below.drew ?_ | with_reducible refine Below.drewN ?_ _ | with_reducible refine Below.alloc2 ?_ _ | with_reducible refine Below.alloc ?_ (by first | omega | (simp <;> omega)) _ | with_reducible refine Below.setCell ?_ (by first | omega | (simp <;> omega)) _ | with_reducible refine Below.step2 (by with_reducible assumption) ?_ | with_reducible refine Below.step (by with_reducible assumption) ?_ (by first | omega | (simp <;> omega))))); (first | omega | (have := HD7.out.size; simp; omega))); have HB8 := Lib.hid (Below.step2 HD8.out HB6.out); have HK8 := Lib.hid (HK6.out.below HD8.out HK6.out.lt); have ol8 := HK8.out.lt; clear hb8) | (go_at_call 13; refine (CP.out _ HB6.out).mono ?_; rintro e w7 ⟨hb7, v, rfl, hown⟩; obtain ⟨A4, c4, rfl, hr⟩ := Rws.of_own hown HLEN.out; have HRW7 := Lib.hid hr; clear hown hr; have HM7 := Lib.hid hb7; have HD7 : Hid (Below w6.heap.size w6 w7) := Lib.hid (by have hb0 := HD6.out; refine Below.trans ?_ (hb7.mono ?_); (exact (by repeat (first | with_reducible exact Below.refl _ _ | with_reducible assumption | with_reducible refine Below.drew ?_ | with_reducible refine Below.drewN ?_ _ | with_reducible refine Below.alloc2 ?_ _ | with_reducible refine Below.alloc ?_ (by first | omega | (simp <;> omega)) _ | with_reducible refine Below.setCell ?_ (by first | omega | (simp <;> omega)) _ | with_reducible refine Below.step2 (by with_reducible assumption) ?_ | with_reducible refine Below.step (by with_reducible assumption) ?_ (by first | omega | (simp <;> omega))))); (first | omega | (have := HD6.out.size; simp; omega))); have HB7 := Lib.hid (Below.step2 HD7.out HB6.out); have HK7 := Lib.hid (HK6.out.below HD7.out HK6.out.lt); have ol7 := HK7.out.lt; clear hb7))
       refine region_goes (n := 7) (fun w' => w'.cell? ⟨w.heap.size, 0, none⟩ = some (.int .i64 xd) ∧ w'.cell? ⟨w.heap.size, 1, none⟩ = some (.int .i64 xk) ∧ w'.cell? ⟨w.heap.size, 2, none⟩ = some (.string xp) ∧ w'.cell? ⟨w.heap.size, 3, none⟩ = some (.int .i64 xn) ∧ w'.cell? ⟨w.heap.size, 4, none⟩ = some (.bool xs) ∧ w'.cell? ⟨w.heap.size, 5, none⟩ = some (.bool xg)) [] (by kernel_rfl) rfl ?_
       have HS10 := Lib.hid (Bk.drew HK10.out).sixc
       refine goes_takeE (i := 0) (E := []) (v := .slice A n c) rfl (by kernel_rfl) rfl (fun _ _ _ h => h) (by intro w' hw'; obtain ⟨z0, z1, z2, z3, z4, z5⟩ := hw'; go_simp) HS10.out ?_
       refine goes_takeE (i := 2) (E := []) (v := .agg #[.int .i64 xd, .int .i64 xk, .string xp, .int .i64 xn, .bool xs, .bool xg]) rfl (by kernel_rfl) rfl (fun _ _ _ h => h) (by intro w' hw'; obtain ⟨z0, z1, z2, z3, z4, z5⟩ := hw'; go_simp) HS10.out ?_
       refine goes_two (i := 1) (j := 3) rfl rfl (by kernel_rfl) ?_ ?_
       · skip
         go_wp2_with (go_at_call 13; refine (CP.out _ (by have hb0 := HB10.out; exact (by repeat (first | with_reducible exact Below.refl _ _ | with_reducible assumption | with_reducible refine Below.drew ?_ | with_reducible refine Below.drewN ?_ _ | with_reducible refine Below.alloc2 ?_ _ | with_reducible refine Below.alloc ?_ (by first | omega | (simp <;> omega)) _ | with_reducible refine Below.setCell ?_ (by first | omega | (simp <;> omega)) _ | with_reducible refine Below.step2 (by with_reducible assumption) ?_ | with_reducible refine Below.step (by with_reducible assumption) ?_ (by first | omega | (simp <;> omega)))))).mono ?_; rintro e w11 ⟨hb11, v0, rfl, hown11⟩; have HO11 : Hid (w11.ownsRow w6.heap.size 24 6 v0 n (l.flatMap Ev.cs)) := Lib.hid (own_base hown11 HD10.out.size); clear hown11; have HM11 := Lib.hid hb11; have HD11 : Hid (Below w6.heap.size w6 w11) := Lib.hid (by have hb0 := HD10.out; refine Below.trans ?_ (hb11.mono ?_); (exact (by repeat (first | with_reducible exact Below.refl _ _ | with_reducible assumption | with_reducible refine Below.drew ?_ | with_reducible refine Below.drewN ?_ _ | with_reducible refine Below.alloc2 ?_ _ | with_reducible refine Below.alloc ?_ (by first | omega | (simp <;> omega)) _ | with_reducible refine Below.setCell ?_ (by first | omega | (simp <;> omega)) _ | with_reducible refine Below.step2 (by with_reducible assumption) ?_ | with_reducible refine Below.step (by with_reducible assumption) ?_ (by first | omega | (simp <;> omega))))); (first | omega | (have := HD10.out.size; simp; omega))); have HB11 := Lib.hid (Below.step2 HD11.out HB6.out); have HK11 := Lib.hid (HK6.out.below HD11.out HK6.out.lt); have ol11 := HK11.out.lt; clear hb11)
         refine behind_ok ⟨HK11.out.sixc, ?_⟩
         refine goes_call (i := 3) rfl (by kernel_rfl) ?_
         skip
         go_wp2
         obtain ⟨w12, hnew⟩ : ∃ x, x = w11.alloc (.cells #[.int .i64 xd, .int .i64 xk, .string xp, .int .i64 xn, .bool xs, .bool xg] 24) := ⟨_, rfl⟩
         rw [← hnew]
         have hb12 : Below w11.heap.size w11 w12 := by rw [hnew]; have hb0 := Below.refl w11.heap.size w11; exact (by repeat (first | with_reducible exact Below.refl _ _ | with_reducible assumption | with_reducible refine Below.drew ?_ | with_reducible refine Below.drewN ?_ _ | with_reducible refine Below.alloc2 ?_ _ | with_reducible refine Below.alloc ?_ (by first | omega | (simp <;> omega)) _ | with_reducible refine Below.setCell ?_ (by first | omega | (simp <;> omega)) _ | with_reducible refine Below.step2 (by with_reducible assumption) ?_ | with_reducible refine Below.step (by with_reducible assumption) ?_ (by first | omega | (simp <;> omega))))
         have HP12 : Hid (Bk w12 w11.heap.size 24 #[.int .i64 xd, .int .i64 xk, .string xp, .int .i64 xn, .bool xs, .bool xg]) := Lib.hid (by rw [hnew]; exact Bk.at_ rfl)
         clear hnew
         have HM12 := Lib.hid hb12; have HD12 : Hid (Below w6.heap.size w6 w12) := Lib.hid (by have hb0 := HD11.out; refine Below.trans ?_ (hb12.mono ?_); (exact (by repeat (first | with_reducible exact Below.refl _ _ | with_reducible assumption | with_reducible refine Below.drew ?_ | with_reducible refine Below.drewN ?_ _ | with_reducible refine Below.alloc2 ?_ _ | with_reducible refine Below.alloc ?_ (by first | omega | (simp <;> omega)) _ | with_reducible refine Below.setCell ?_ (by first | omega | (simp <;> omega)) _ | with_reducible refine Below.step2 (by with_reducible assumption) ?_ | with_reducible refine Below.step (by with_reducible assumption) ?_ (by first | omega | (simp <;> omega))))); (first | omega | (have := HD11.out.size; simp; omega))); have HB12 := Lib.hid (Below.step2 HD12.out HB6.out); have HK12 := Lib.hid (HK6.out.below HD12.out HK6.out.lt); have ol12 := HK12.out.lt; clear hb12
         refine behind_ok ⟨HK12.out.sixc, ?_⟩
         have HO12 := Lib.hid (own_step HO11.out HM12.out)
         refine goes_call (i := 4) rfl (by kernel_rfl) ?_
         skip
         refine app_ev (W := l) (H := [(⟨xd, xk, xp, xn, xs, xg⟩ : Ev)]) (base := w6.heap.size) (vw := v0) (B := w12.heap.size) (by rw [HLEN.out]; exact HO12.out) rfl _ _ rfl rfl rfl (Bk.rowE (x := (⟨xd, xk, xp, xn, xs, xg⟩ : Ev)) HP12.out HP12.out.lt) (by rw [HLEN.out]; omega) HD12.out.size ?_
         intro v1 w13 ho hg
         have HD13 : Hid (Below w6.heap.size w6 w13) := Lib.hid (Below.grown_ HD12.out hg HD12.out.size (fun q hq => (HO12.out.lt q hq).1))
         have HB13 := Lib.hid (Below.step2 HD13.out HB6.out)
         have HK13 := Lib.hid (HK6.out.below HD13.out HK6.out.lt)
         have ho2 : w13.ownsRow w6.heap.size 24 6 v1 (n + 1) ((l ++ [(⟨xd, xk, xp, xn, xs, xg⟩ : Ev)]).flatMap Ev.cs) := by rw [← HL2.out]; exact ho
         obtain ⟨A5, c5, rfl, hr⟩ := Rws.of_own ho2 HL2.out
         have HRL := Lib.hid hr
         clear ho ho2 hg hr
         go_wp2
         refine behind_ok ⟨HK13.out.sixc, ?_⟩
         refine goes_call (i := 5) rfl (by kernel_rfl) ?_
         go_wp2_with (go_at_call 11; refine (RC2.out _ _ _ HRL.out).mono ?_; rintro e w14 ⟨hb14, rfl⟩; have HM14 := Lib.hid hb14; have HD14 : Hid (Below w6.heap.size w6 w14) := Lib.hid (by have hb0 := HD13.out; refine Below.trans ?_ (hb14.mono ?_); (exact (by repeat (first | with_reducible exact Below.refl _ _ | with_reducible assumption | with_reducible refine Below.drew ?_ | with_reducible refine Below.drewN ?_ _ | with_reducible refine Below.alloc2 ?_ _ | with_reducible refine Below.alloc ?_ (by first | omega | (simp <;> omega)) _ | with_reducible refine Below.setCell ?_ (by first | omega | (simp <;> omega)) _ | with_reducible refine Below.step2 (by with_reducible assumption) ?_ | with_reducible refine Below.step (by with_reducible assumption) ?_ (by first | omega | (simp <;> omega))))); (first | omega | (have := HD13.out.size; simp; omega))); have HB14 := Lib.hid (Below.step2 HD14.out HB6.out); have HK14 := Lib.hid (HK6.out.below HD14.out HK6.out.lt); have ol14 := HK14.out.lt; clear hb14)
         refine behind_ok ⟨HK14.out.sixc, ?_⟩
         refine goes_call (i := 6) rfl (by kernel_rfl) ?_
         go_wp2
         refine behind_ok ⟨HK14.out.sixc, ?_⟩
         refine goes_done (by kernel_rfl) ?_
         go_upto_region 19 with (fail)
         refine region_goes (n := 12) (fun w' => w'.cell? ⟨w.heap.size, 0, none⟩ = some (.int .i64 xd) ∧ w'.cell? ⟨w.heap.size, 1, none⟩ = some (.int .i64 xk) ∧ w'.cell? ⟨w.heap.size, 2, none⟩ = some (.string xp) ∧ w'.cell? ⟨w.heap.size, 3, none⟩ = some (.int .i64 xn) ∧ w'.cell? ⟨w.heap.size, 4, none⟩ = some (.bool xs) ∧ w'.cell? ⟨w.heap.size, 5, none⟩ = some (.bool xg)) [] (by kernel_rfl) rfl ?_
         have HS14 := Lib.hid (Bk.drew HK14.out).sixc
         clear HRL
         refine goes_takeE (i := 0) (E := []) (v := .int .i64 G) rfl (by kernel_rfl) rfl (fun _ _ _ h => h) (by intro w' hw'; obtain ⟨z0, z1, z2, z3, z4, z5⟩ := hw'; go_simp) HS14.out ?_
         refine goes_takeE (i := 1) (E := []) (v := .bool true) rfl (by kernel_rfl) rfl (fun _ _ _ h => h) (by intro w' hw'; obtain ⟨z0, z1, z2, z3, z4, z5⟩ := hw'; go_simp) HS14.out ?_
         refine goes_takeE (i := 2) (E := []) (v := .bool true) rfl (by kernel_rfl) rfl (fun _ _ _ h => h) (by intro w' hw'; obtain ⟨z0, z1, z2, z3, z4, z5⟩ := hw'; go_simp) HS14.out ?_
         refine goes_met (i := 3) (v := .slice A3 (n + 1) c3) rfl (by kernel_rfl) (by kernel_rfl) (fun _ _ _ h => h) (by intro w' hw'; obtain ⟨z0, z1, z2, z3, z4, z5⟩ := hw'; go_simp) HS14.out ?_
         refine goes_met (i := 4) (v := .slice A n c) rfl (by kernel_rfl) (by kernel_rfl) (fun _ _ _ h => h) (by intro w' hw'; obtain ⟨z0, z1, z2, z3, z4, z5⟩ := hw'; go_simp) HS14.out ?_
         refine goes_met (i := 6) (v := .agg #[.int .i64 xd, .int .i64 xk, .string xp, .int .i64 xn, .bool xs, .bool xg]) rfl (by kernel_rfl) (by kernel_rfl) (fun _ _ _ h => h) (by intro w' hw'; obtain ⟨z0, z1, z2, z3, z4, z5⟩ := hw'; go_simp) HS14.out ?_
         refine goes_two (i := 5) (j := 7) rfl rfl (by kernel_rfl) ?_ ?_
         · refine wpList_met (by kernel_rfl) ?_
           go_wp2_with (go_at_call 13; refine (CP.out _ (by have hb0 := HB14.out; exact (by repeat (first | with_reducible exact Below.refl _ _ | with_reducible assumption | with_reducible refine Below.drew ?_ | with_reducible refine Below.drewN ?_ _ | with_reducible refine Below.alloc2 ?_ _ | with_reducible refine Below.alloc ?_ (by first | omega | (simp <;> omega)) _ | with_reducible refine Below.setCell ?_ (by first | omega | (simp <;> omega)) _ | with_reducible refine Below.step2 (by with_reducible assumption) ?_ | with_reducible refine Below.step (by with_reducible assumption) ?_ (by first | omega | (simp <;> omega)))))).mono ?_; rintro e w15 ⟨hb15, v0, rfl, hown15⟩; have HO15 : Hid (w15.ownsRow w6.heap.size 24 6 v0 n (l.flatMap Ev.cs)) := Lib.hid (own_base hown15 HD14.out.size); clear hown15; have HM15 := Lib.hid hb15; have HD15 : Hid (Below w6.heap.size w6 w15) := Lib.hid (by have hb0 := HD14.out; refine Below.trans ?_ (hb15.mono ?_); (exact (by repeat (first | with_reducible exact Below.refl _ _ | with_reducible assumption | with_reducible refine Below.drew ?_ | with_reducible refine Below.drewN ?_ _ | with_reducible refine Below.alloc2 ?_ _ | with_reducible refine Below.alloc ?_ (by first | omega | (simp <;> omega)) _ | with_reducible refine Below.setCell ?_ (by first | omega | (simp <;> omega)) _ | with_reducible refine Below.step2 (by with_reducible assumption) ?_ | with_reducible refine Below.step (by with_reducible assumption) ?_ (by first | omega | (simp <;> omega))))); (first | omega | (have := HD14.out.size; simp; omega))); have HB15 := Lib.hid (Below.step2 HD15.out HB6.out); have HK15 := Lib.hid (HK6.out.below HD15.out HK6.out.lt); have ol15 := HK15.out.lt; clear hb15)
           refine behind_ok ⟨HK15.out.sixc, ?_⟩
           refine goes_call (i := 7) rfl (by kernel_rfl) ?_
           refine wpList_met (by kernel_rfl) ?_
           go_wp2
           obtain ⟨w16, hnew⟩ : ∃ x, x = w15.alloc (.cells #[.int .i64 xd, .int .i64 xk, .string xp, .int .i64 xn, .bool xs, .bool xg] 24) := ⟨_, rfl⟩
           rw [← hnew]
           have hb16 : Below w15.heap.size w15 w16 := by rw [hnew]; have hb0 := Below.refl w15.heap.size w15; exact (by repeat (first | with_reducible exact Below.refl _ _ | with_reducible assumption | with_reducible refine Below.drew ?_ | with_reducible refine Below.drewN ?_ _ | with_reducible refine Below.alloc2 ?_ _ | with_reducible refine Below.alloc ?_ (by first | omega | (simp <;> omega)) _ | with_reducible refine Below.setCell ?_ (by first | omega | (simp <;> omega)) _ | with_reducible refine Below.step2 (by with_reducible assumption) ?_ | with_reducible refine Below.step (by with_reducible assumption) ?_ (by first | omega | (simp <;> omega))))
           have HP16 : Hid (Bk w16 w15.heap.size 24 #[.int .i64 xd, .int .i64 xk, .string xp, .int .i64 xn, .bool xs, .bool xg]) := Lib.hid (by rw [hnew]; exact Bk.at_ rfl)
           clear hnew
           have HM16 := Lib.hid hb16; have HD16 : Hid (Below w6.heap.size w6 w16) := Lib.hid (by have hb0 := HD15.out; refine Below.trans ?_ (hb16.mono ?_); (exact (by repeat (first | with_reducible exact Below.refl _ _ | with_reducible assumption | with_reducible refine Below.drew ?_ | with_reducible refine Below.drewN ?_ _ | with_reducible refine Below.alloc2 ?_ _ | with_reducible refine Below.alloc ?_ (by first | omega | (simp <;> omega)) _ | with_reducible refine Below.setCell ?_ (by first | omega | (simp <;> omega)) _ | with_reducible refine Below.step2 (by with_reducible assumption) ?_ | with_reducible refine Below.step (by with_reducible assumption) ?_ (by first | omega | (simp <;> omega))))); (first | omega | (have := HD15.out.size; simp; omega))); have HB16 := Lib.hid (Below.step2 HD16.out HB6.out); have HK16 := Lib.hid (HK6.out.below HD16.out HK6.out.lt); have ol16 := HK16.out.lt; clear hb16
           refine behind_ok ⟨HK16.out.sixc, ?_⟩
           have HO16 := Lib.hid (own_step HO15.out HM16.out)
           refine goes_call (i := 8) rfl (by kernel_rfl) ?_
           refine wpList_met (by kernel_rfl) ?_
           refine app_ev (W := l) (H := [(⟨xd, xk, xp, xn, xs, xg⟩ : Ev)]) (base := w6.heap.size) (vw := v0) (B := w16.heap.size) (by rw [HLEN.out]; exact HO16.out) rfl _ _ rfl rfl rfl (Bk.rowE (x := (⟨xd, xk, xp, xn, xs, xg⟩ : Ev)) HP16.out HP16.out.lt) (by rw [HLEN.out]; omega) HD16.out.size ?_
           intro v1 w17 ho hg
           have HD17 : Hid (Below w6.heap.size w6 w17) := Lib.hid (Below.grown_ HD16.out hg HD16.out.size (fun q hq => (HO16.out.lt q hq).1))
           have HB17 := Lib.hid (Below.step2 HD17.out HB6.out)
           have HK17 := Lib.hid (HK6.out.below HD17.out HK6.out.lt)
           have ho2 : w17.ownsRow w6.heap.size 24 6 v1 (n + 1) ((l ++ [(⟨xd, xk, xp, xn, xs, xg⟩ : Ev)]).flatMap Ev.cs) := by rw [← HL2.out]; exact ho
           obtain ⟨A5, c5, rfl, hr⟩ := Rws.of_own ho2 HL2.out
           have HRL := Lib.hid hr
           clear ho ho2 hg hr
           go_wp2
           refine behind_ok ⟨HK17.out.sixc, ?_⟩
           refine goes_call (i := 9) rfl (by kernel_rfl) ?_
           refine wpList_met (by kernel_rfl) ?_
           go_wp2_with (go_at_call 18; refine (sameRecord_eq A3 A5 (n + 1) c3 c5 _ _ (HRA.out.below HD17.out (Nat.le_refl _) HD17.out.size) HRL.out).mono ?_; rintro e w18 ⟨hb18, rfl⟩; have HM18 := Lib.hid hb18; have HD18 : Hid (Below w6.heap.size w6 w18) := Lib.hid (by have hb0 := HD17.out; refine Below.trans ?_ (hb18.mono ?_); (exact (by repeat (first | with_reducible exact Below.refl _ _ | with_reducible assumption | with_reducible refine Below.drew ?_ | with_reducible refine Below.drewN ?_ _ | with_reducible refine Below.alloc2 ?_ _ | with_reducible refine Below.alloc ?_ (by first | omega | (simp <;> omega)) _ | with_reducible refine Below.setCell ?_ (by first | omega | (simp <;> omega)) _ | with_reducible refine Below.step2 (by with_reducible assumption) ?_ | with_reducible refine Below.step (by with_reducible assumption) ?_ (by first | omega | (simp <;> omega))))); (first | omega | (have := HD17.out.size; simp; omega))); have HB18 := Lib.hid (Below.step2 HD18.out HB6.out); have HK18 := Lib.hid (HK6.out.below HD18.out HK6.out.lt); have ol18 := HK18.out.lt; clear hb18)
           refine behind_ok ⟨HK18.out.sixc, ?_⟩
           refine goes_call (i := 10) rfl (by kernel_rfl) ?_
           go_wp2
           refine behind_ok ⟨HK18.out.sixc, ?_⟩
           refine goes_call (i := 11) rfl (by kernel_rfl) ?_
           go_wp2
           refine behind_ok ⟨HK18.out.sixc, ?_⟩
           refine goes_done (by kernel_rfl) ?_
           go_wp2
           go_ret
           exact ⟨HB18.out, rfl⟩
         · refine wpList_met (by kernel_rfl) ?_
           go_wp2
           obtain ⟨w15, hnew⟩ : ∃ x, x = w14.alloc (.cells #[.int .i64 xd, .int .i64 xk, .string xp, .int .i64 xn, .bool xs, .bool xg] 24) := ⟨_, rfl⟩
           rw [← hnew]
           have hb15 : Below w14.heap.size w14 w15 := by rw [hnew]; have hb0 := Below.refl w14.heap.size w14; exact (by repeat (first | with_reducible exact Below.refl _ _ | with_reducible assumption | with_reducible refine Below.drew ?_ | with_reducible refine Below.drewN ?_ _ | with_reducible refine Below.alloc2 ?_ _ | with_reducible refine Below.alloc ?_ (by first | omega | (simp <;> omega)) _ | with_reducible refine Below.setCell ?_ (by first | omega | (simp <;> omega)) _ | with_reducible refine Below.step2 (by with_reducible assumption) ?_ | with_reducible refine Below.step (by with_reducible assumption) ?_ (by first | omega | (simp <;> omega))))
           have HP15 : Hid (Bk w15 w14.heap.size 24 #[.int .i64 xd, .int .i64 xk, .string xp, .int .i64 xn, .bool xs, .bool xg]) := Lib.hid (by rw [hnew]; exact Bk.at_ rfl)
           clear hnew
           have HM15 := Lib.hid hb15; have HD15 : Hid (Below w6.heap.size w6 w15) := Lib.hid (by have hb0 := HD14.out; refine Below.trans ?_ (hb15.mono ?_); (exact (by repeat (first | with_reducible exact Below.refl _ _ | with_reducible assumption | with_reducible refine Below.drew ?_ | with_reducible refine Below.drewN ?_ _ | with_reducible refine Below.alloc2 ?_ _ | with_reducible refine Below.alloc ?_ (by first | omega | (simp <;> omega)) _ | with_reducible refine Below.setCell ?_ (by first | omega | (simp <;> omega)) _ | with_reducible refine Below.step2 (by with_reducible assumption) ?_ | with_reducible refine Below.step (by with_reducible assumption) ?_ (by first | omega | (simp <;> omega))))); (first | omega | (have := HD14.out.size; simp; omega))); have HB15 := Lib.hid (Below.step2 HD15.out HB6.out); have HK15 := Lib.hid (HK6.out.below HD15.out HK6.out.lt); have ol15 := HK15.out.lt; clear hb15
           refine behind_ok ⟨HK15.out.sixc, ?_⟩
           refine goes_call (i := 5) rfl (by kernel_rfl) ?_
           refine wpList_met (by kernel_rfl) ?_
           go_wp2_with (go_at_call 13; refine (CP.out _ (by have hb0 := HB15.out; exact (by repeat (first | with_reducible exact Below.refl _ _ | with_reducible assumption | with_reducible refine Below.drew ?_ | with_reducible refine Below.drewN ?_ _ | with_reducible refine Below.alloc2 ?_ _ | with_reducible refine Below.alloc ?_ (by first | omega | (simp <;> omega)) _ | with_reducible refine Below.setCell ?_ (by first | omega | (simp <;> omega)) _ | with_reducible refine Below.step2 (by with_reducible assumption) ?_ | with_reducible refine Below.step (by with_reducible assumption) ?_ (by first | omega | (simp <;> omega)))))).mono ?_; rintro e w16 ⟨hb16, v0, rfl, hown16⟩; have HO16 : Hid (w16.ownsRow w6.heap.size 24 6 v0 n (l.flatMap Ev.cs)) := Lib.hid (own_base hown16 HD15.out.size); clear hown16; have HM16 := Lib.hid hb16; have HD16 : Hid (Below w6.heap.size w6 w16) := Lib.hid (by have hb0 := HD15.out; refine Below.trans ?_ (hb16.mono ?_); (exact (by repeat (first | with_reducible exact Below.refl _ _ | with_reducible assumption | with_reducible refine Below.drew ?_ | with_reducible refine Below.drewN ?_ _ | with_reducible refine Below.alloc2 ?_ _ | with_reducible refine Below.alloc ?_ (by first | omega | (simp <;> omega)) _ | with_reducible refine Below.setCell ?_ (by first | omega | (simp <;> omega)) _ | with_reducible refine Below.step2 (by with_reducible assumption) ?_ | with_reducible refine Below.step (by with_reducible assumption) ?_ (by first | omega | (simp <;> omega))))); (first | omega | (have := HD15.out.size; simp; omega))); have HB16 := Lib.hid (Below.step2 HD16.out HB6.out); have HK16 := Lib.hid (HK6.out.below HD16.out HK6.out.lt); have ol16 := HK16.out.lt; clear hb16)
           refine behind_ok ⟨HK16.out.sixc, ?_⟩
           have HP16 := Lib.hid ((Bk.drew HP15.out).below HM16.out HP15.out.lt)
           refine goes_call (i := 8) rfl (by kernel_rfl) ?_
           refine wpList_met (by kernel_rfl) ?_
           refine app_ev (W := l) (H := [(⟨xd, xk, xp, xn, xs, xg⟩ : Ev)]) (base := w6.heap.size) (vw := v0) (B := w16.heap.size) (by rw [HLEN.out]; exact HO16.out) rfl _ _ rfl rfl rfl (Bk.rowE (x := (⟨xd, xk, xp, xn, xs, xg⟩ : Ev)) HP16.out HP16.out.lt) (by rw [HLEN.out]; omega) HD16.out.size ?_
           intro v1 w17 ho hg
           have HD17 : Hid (Below w6.heap.size w6 w17) := Lib.hid (Below.grown_ HD16.out hg HD16.out.size (fun q hq => (HO16.out.lt q hq).1))
           have HB17 := Lib.hid (Below.step2 HD17.out HB6.out)
           have HK17 := Lib.hid (HK6.out.below HD17.out HK6.out.lt)
           have ho2 : w17.ownsRow w6.heap.size 24 6 v1 (n + 1) ((l ++ [(⟨xd, xk, xp, xn, xs, xg⟩ : Ev)]).flatMap Ev.cs) := by rw [← HL2.out]; exact ho
           obtain ⟨A5, c5, rfl, hr⟩ := Rws.of_own ho2 HL2.out
           have HRL := Lib.hid hr
           clear ho ho2 hg hr
           go_wp2
           refine behind_ok ⟨HK17.out.sixc, ?_⟩
           refine goes_call (i := 9) rfl (by kernel_rfl) ?_
           refine wpList_met (by kernel_rfl) ?_
           go_wp2_with (go_at_call 18; refine (sameRecord_eq A3 A5 (n + 1) c3 c5 _ _ (HRA.out.below HD17.out (Nat.le_refl _) HD17.out.size) HRL.out).mono ?_; rintro e w18 ⟨hb18, rfl⟩; have HM18 := Lib.hid hb18; have HD18 : Hid (Below w6.heap.size w6 w18) := Lib.hid (by have hb0 := HD17.out; refine Below.trans ?_ (hb18.mono ?_); (exact (by repeat (first | with_reducible exact Below.refl _ _ | with_reducible assumption | with_reducible refine Below.drew ?_ | with_reducible refine Below.drewN ?_ _ | with_reducible refine Below.alloc2 ?_ _ | with_reducible refine Below.alloc ?_ (by first | omega | (simp <;> omega)) _ | with_reducible refine Below.setCell ?_ (by first | omega | (simp <;> omega)) _ | with_reducible refine Below.step2 (by with_reducible assumption) ?_ | with_reducible refine Below.step (by with_reducible assumption) ?_ (by first | omega | (simp <;> omega))))); (first | omega | (have := HD17.out.size; simp; omega))); have HB18 := Lib.hid (Below.step2 HD18.out HB6.out); have HK18 := Lib.hid (HK6.out.below HD18.out HK6.out.lt); have ol18 := HK18.out.lt; clear hb18)
           refine behind_ok ⟨HK18.out.sixc, ?_⟩
           refine goes_call (i := 10) rfl (by kernel_rfl) ?_
           go_wp2
           refine behind_ok ⟨HK18.out.sixc, ?_⟩
           refine goes_call (i := 11) rfl (by kernel_rfl) ?_
           go_wp2
           refine behind_ok ⟨HK18.out.sixc, ?_⟩
           refine goes_done (by kernel_rfl) ?_
           go_wp2
           go_ret
           exact ⟨HB18.out, rfl⟩
       · skip
         go_wp2
         obtain ⟨w11, hnew⟩ : ∃ x, x = w10.alloc (.cells #[.int .i64 xd, .int .i64 xk, .string xp, .int .i64 xn, .bool xs, .bool xg] 24) := ⟨_, rfl⟩
         rw [← hnew]
         have hb11 : Below w10.heap.size w10 w11 := by rw [hnew]; have hb0 := Below.refl w10.heap.size w10; exact (by repeat (first | with_reducible exact Below.refl _ _ | with_reducible assumption | with_reducible refine Below.drew ?_ | with_reducible refine Below.drewN ?_ _ | with_reducible refine Below.alloc2 ?_ _ | with_reducible refine Below.alloc ?_ (by first | omega | (simp <;> omega)) _ | with_reducible refine Below.setCell ?_ (by first | omega | (simp <;> omega)) _ | with_reducible refine Below.step2 (by with_reducible assumption) ?_ | with_reducible refine Below.step (by with_reducible assumption) ?_ (by first | omega | (simp <;> omega))))
         have HP11 : Hid (Bk w11 w10.heap.size 24 #[.int .i64 xd, .int .i64 xk, .string xp, .int .i64 xn, .bool xs, .bool xg]) := Lib.hid (by rw [hnew]; exact Bk.at_ rfl)
         clear hnew
         have HM11 := Lib.hid hb11; have HD11 : Hid (Below w6.heap.size w6 w11) := Lib.hid (by have hb0 := HD10.out; refine Below.trans ?_ (hb11.mono ?_); (exact (by repeat (first | with_reducible exact Below.refl _ _ | with_reducible assumption | with_reducible refine Below.drew ?_ | with_reducible refine Below.drewN ?_ _ | with_reducible refine Below.alloc2 ?_ _ | with_reducible refine Below.alloc ?_ (by first | omega | (simp <;> omega)) _ | with_reducible refine Below.setCell ?_ (by first | omega | (simp <;> omega)) _ | with_reducible refine Below.step2 (by with_reducible assumption) ?_ | with_reducible refine Below.step (by with_reducible assumption) ?_ (by first | omega | (simp <;> omega))))); (first | omega | (have := HD10.out.size; simp; omega))); have HB11 := Lib.hid (Below.step2 HD11.out HB6.out); have HK11 := Lib.hid (HK6.out.below HD11.out HK6.out.lt); have ol11 := HK11.out.lt; clear hb11
         refine behind_ok ⟨HK11.out.sixc, ?_⟩
         refine goes_call (i := 1) rfl (by kernel_rfl) ?_
         skip
         go_wp2_with (go_at_call 13; refine (CP.out _ (by have hb0 := HB11.out; exact (by repeat (first | with_reducible exact Below.refl _ _ | with_reducible assumption | with_reducible refine Below.drew ?_ | with_reducible refine Below.drewN ?_ _ | with_reducible refine Below.alloc2 ?_ _ | with_reducible refine Below.alloc ?_ (by first | omega | (simp <;> omega)) _ | with_reducible refine Below.setCell ?_ (by first | omega | (simp <;> omega)) _ | with_reducible refine Below.step2 (by with_reducible assumption) ?_ | with_reducible refine Below.step (by with_reducible assumption) ?_ (by first | omega | (simp <;> omega)))))).mono ?_; rintro e w12 ⟨hb12, v0, rfl, hown12⟩; have HO12 : Hid (w12.ownsRow w6.heap.size 24 6 v0 n (l.flatMap Ev.cs)) := Lib.hid (own_base hown12 HD11.out.size); clear hown12; have HM12 := Lib.hid hb12; have HD12 : Hid (Below w6.heap.size w6 w12) := Lib.hid (by have hb0 := HD11.out; refine Below.trans ?_ (hb12.mono ?_); (exact (by repeat (first | with_reducible exact Below.refl _ _ | with_reducible assumption | with_reducible refine Below.drew ?_ | with_reducible refine Below.drewN ?_ _ | with_reducible refine Below.alloc2 ?_ _ | with_reducible refine Below.alloc ?_ (by first | omega | (simp <;> omega)) _ | with_reducible refine Below.setCell ?_ (by first | omega | (simp <;> omega)) _ | with_reducible refine Below.step2 (by with_reducible assumption) ?_ | with_reducible refine Below.step (by with_reducible assumption) ?_ (by first | omega | (simp <;> omega))))); (first | omega | (have := HD11.out.size; simp; omega))); have HB12 := Lib.hid (Below.step2 HD12.out HB6.out); have HK12 := Lib.hid (HK6.out.below HD12.out HK6.out.lt); have ol12 := HK12.out.lt; clear hb12)
         refine behind_ok ⟨HK12.out.sixc, ?_⟩
         have HP12 := Lib.hid ((Bk.drew HP11.out).below HM12.out HP11.out.lt)
         refine goes_call (i := 4) rfl (by kernel_rfl) ?_
         skip
         refine app_ev (W := l) (H := [(⟨xd, xk, xp, xn, xs, xg⟩ : Ev)]) (base := w6.heap.size) (vw := v0) (B := w12.heap.size) (by rw [HLEN.out]; exact HO12.out) rfl _ _ rfl rfl rfl (Bk.rowE (x := (⟨xd, xk, xp, xn, xs, xg⟩ : Ev)) HP12.out HP12.out.lt) (by rw [HLEN.out]; omega) HD12.out.size ?_
         intro v1 w13 ho hg
         have HD13 : Hid (Below w6.heap.size w6 w13) := Lib.hid (Below.grown_ HD12.out hg HD12.out.size (fun q hq => (HO12.out.lt q hq).1))
         have HB13 := Lib.hid (Below.step2 HD13.out HB6.out)
         have HK13 := Lib.hid (HK6.out.below HD13.out HK6.out.lt)
         have ho2 : w13.ownsRow w6.heap.size 24 6 v1 (n + 1) ((l ++ [(⟨xd, xk, xp, xn, xs, xg⟩ : Ev)]).flatMap Ev.cs) := by rw [← HL2.out]; exact ho
         obtain ⟨A5, c5, rfl, hr⟩ := Rws.of_own ho2 HL2.out
         have HRL := Lib.hid hr
         clear ho ho2 hg hr
         go_wp2
         refine behind_ok ⟨HK13.out.sixc, ?_⟩
         refine goes_call (i := 5) rfl (by kernel_rfl) ?_
         go_wp2_with (go_at_call 11; refine (RC2.out _ _ _ HRL.out).mono ?_; rintro e w14 ⟨hb14, rfl⟩; have HM14 := Lib.hid hb14; have HD14 : Hid (Below w6.heap.size w6 w14) := Lib.hid (by have hb0 := HD13.out; refine Below.trans ?_ (hb14.mono ?_); (exact (by repeat (first | with_reducible exact Below.refl _ _ | with_reducible assumption | with_reducible refine Below.drew ?_ | with_reducible refine Below.drewN ?_ _ | with_reducible refine Below.alloc2 ?_ _ | with_reducible refine Below.alloc ?_ (by first | omega | (simp <;> omega)) _ | with_reducible refine Below.setCell ?_ (by first | omega | (simp <;> omega)) _ | with_reducible refine Below.step2 (by with_reducible assumption) ?_ | with_reducible refine Below.step (by with_reducible assumption) ?_ (by first | omega | (simp <;> omega))))); (first | omega | (have := HD13.out.size; simp; omega))); have HB14 := Lib.hid (Below.step2 HD14.out HB6.out); have HK14 := Lib.hid (HK6.out.below HD14.out HK6.out.lt); have ol14 := HK14.out.lt; clear hb14)
         refine behind_ok ⟨HK14.out.sixc, ?_⟩
         refine goes_call (i := 6) rfl (by kernel_rfl) ?_
         go_wp2
         refine behind_ok ⟨HK14.out.sixc, ?_⟩
         refine goes_done (by kernel_rfl) ?_
         go_upto_region 19 with (fail)
         refine region_goes (n := 12) (fun w' => w'.cell? ⟨w.heap.size, 0, none⟩ = some (.int .i64 xd) ∧ w'.cell? ⟨w.heap.size, 1, none⟩ = some (.int .i64 xk) ∧ w'.cell? ⟨w.heap.size, 2, none⟩ = some (.string xp) ∧ w'.cell? ⟨w.heap.size, 3, none⟩ = some (.int .i64 xn) ∧ w'.cell? ⟨w.heap.size, 4, none⟩ = some (.bool xs) ∧ w'.cell? ⟨w.heap.size, 5, none⟩ = some (.bool xg)) [] (by kernel_rfl) rfl ?_
         have HS14 := Lib.hid (Bk.drew HK14.out).sixc
         clear HRL
         refine goes_takeE (i := 0) (E := []) (v := .int .i64 G) rfl (by kernel_rfl) rfl (fun _ _ _ h => h) (by intro w' hw'; obtain ⟨z0, z1, z2, z3, z4, z5⟩ := hw'; go_simp) HS14.out ?_
         refine goes_takeE (i := 1) (E := []) (v := .bool true) rfl (by kernel_rfl) rfl (fun _ _ _ h => h) (by intro w' hw'; obtain ⟨z0, z1, z2, z3, z4, z5⟩ := hw'; go_simp) HS14.out ?_
         refine goes_takeE (i := 2) (E := []) (v := .bool true) rfl (by kernel_rfl) rfl (fun _ _ _ h => h) (by intro w' hw'; obtain ⟨z0, z1, z2, z3, z4, z5⟩ := hw'; go_simp) HS14.out ?_
         refine goes_met (i := 3) (v := .slice A3 (n + 1) c3) rfl (by kernel_rfl) (by kernel_rfl) (fun _ _ _ h => h) (by intro w' hw'; obtain ⟨z0, z1, z2, z3, z4, z5⟩ := hw'; go_simp) HS14.out ?_
         refine goes_met (i := 4) (v := .slice A n c) rfl (by kernel_rfl) (by kernel_rfl) (fun _ _ _ h => h) (by intro w' hw'; obtain ⟨z0, z1, z2, z3, z4, z5⟩ := hw'; go_simp) HS14.out ?_
         refine goes_met (i := 6) (v := .agg #[.int .i64 xd, .int .i64 xk, .string xp, .int .i64 xn, .bool xs, .bool xg]) rfl (by kernel_rfl) (by kernel_rfl) (fun _ _ _ h => h) (by intro w' hw'; obtain ⟨z0, z1, z2, z3, z4, z5⟩ := hw'; go_simp) HS14.out ?_
         refine goes_two (i := 5) (j := 7) rfl rfl (by kernel_rfl) ?_ ?_
         · refine wpList_met (by kernel_rfl) ?_
           go_wp2_with (go_at_call 13; refine (CP.out _ (by have hb0 := HB14.out; exact (by repeat (first | with_reducible exact Below.refl _ _ | with_reducible assumption | with_reducible refine Below.drew ?_ | with_reducible refine Below.drewN ?_ _ | with_reducible refine Below.alloc2 ?_ _ | with_reducible refine Below.alloc ?_ (by first | omega | (simp <;> omega)) _ | with_reducible refine Below.setCell ?_ (by first | omega | (simp <;> omega)) _ | with_reducible refine Below.step2 (by with_reducible assumption) ?_ | with_reducible refine Below.step (by with_reducible assumption) ?_ (by first | omega | (simp <;> omega)))))).mono ?_; rintro e w15 ⟨hb15, v0, rfl, hown15⟩; have HO15 : Hid (w15.ownsRow w6.heap.size 24 6 v0 n (l.flatMap Ev.cs)) := Lib.hid (own_base hown15 HD14.out.size); clear hown15; have HM15 := Lib.hid hb15; have HD15 : Hid (Below w6.heap.size w6 w15) := Lib.hid (by have hb0 := HD14.out; refine Below.trans ?_ (hb15.mono ?_); (exact (by repeat (first | with_reducible exact Below.refl _ _ | with_reducible assumption | with_reducible refine Below.drew ?_ | with_reducible refine Below.drewN ?_ _ | with_reducible refine Below.alloc2 ?_ _ | with_reducible refine Below.alloc ?_ (by first | omega | (simp <;> omega)) _ | with_reducible refine Below.setCell ?_ (by first | omega | (simp <;> omega)) _ | with_reducible refine Below.step2 (by with_reducible assumption) ?_ | with_reducible refine Below.step (by with_reducible assumption) ?_ (by first | omega | (simp <;> omega))))); (first | omega | (have := HD14.out.size; simp; omega))); have HB15 := Lib.hid (Below.step2 HD15.out HB6.out); have HK15 := Lib.hid (HK6.out.below HD15.out HK6.out.lt); have ol15 := HK15.out.lt; clear hb15)
           refine behind_ok ⟨HK15.out.sixc, ?_⟩
           refine goes_call (i := 7) rfl (by kernel_rfl) ?_
           refine wpList_met (by kernel_rfl) ?_
           go_wp2
           obtain ⟨w16, hnew⟩ : ∃ x, x = w15.alloc (.cells #[.int .i64 xd, .int .i64 xk, .string xp, .int .i64 xn, .bool xs, .bool xg] 24) := ⟨_, rfl⟩
           rw [← hnew]
           have hb16 : Below w15.heap.size w15 w16 := by rw [hnew]; have hb0 := Below.refl w15.heap.size w15; exact (by repeat (first | with_reducible exact Below.refl _ _ | with_reducible assumption | with_reducible refine Below.drew ?_ | with_reducible refine Below.drewN ?_ _ | with_reducible refine Below.alloc2 ?_ _ | with_reducible refine Below.alloc ?_ (by first | omega | (simp <;> omega)) _ | with_reducible refine Below.setCell ?_ (by first | omega | (simp <;> omega)) _ | with_reducible refine Below.step2 (by with_reducible assumption) ?_ | with_reducible refine Below.step (by with_reducible assumption) ?_ (by first | omega | (simp <;> omega))))
           have HP16 : Hid (Bk w16 w15.heap.size 24 #[.int .i64 xd, .int .i64 xk, .string xp, .int .i64 xn, .bool xs, .bool xg]) := Lib.hid (by rw [hnew]; exact Bk.at_ rfl)
           clear hnew
           have HM16 := Lib.hid hb16; have HD16 : Hid (Below w6.heap.size w6 w16) := Lib.hid (by have hb0 := HD15.out; refine Below.trans ?_ (hb16.mono ?_); (exact (by repeat (first | with_reducible exact Below.refl _ _ | with_reducible assumption | with_reducible refine Below.drew ?_ | with_reducible refine Below.drewN ?_ _ | with_reducible refine Below.alloc2 ?_ _ | with_reducible refine Below.alloc ?_ (by first | omega | (simp <;> omega)) _ | with_reducible refine Below.setCell ?_ (by first | omega | (simp <;> omega)) _ | with_reducible refine Below.step2 (by with_reducible assumption) ?_ | with_reducible refine Below.step (by with_reducible assumption) ?_ (by first | omega | (simp <;> omega))))); (first | omega | (have := HD15.out.size; simp; omega))); have HB16 := Lib.hid (Below.step2 HD16.out HB6.out); have HK16 := Lib.hid (HK6.out.below HD16.out HK6.out.lt); have ol16 := HK16.out.lt; clear hb16
           refine behind_ok ⟨HK16.out.sixc, ?_⟩
           have HO16 := Lib.hid (own_step HO15.out HM16.out)
           refine goes_call (i := 8) rfl (by kernel_rfl) ?_
           refine wpList_met (by kernel_rfl) ?_
           refine app_ev (W := l) (H := [(⟨xd, xk, xp, xn, xs, xg⟩ : Ev)]) (base := w6.heap.size) (vw := v0) (B := w16.heap.size) (by rw [HLEN.out]; exact HO16.out) rfl _ _ rfl rfl rfl (Bk.rowE (x := (⟨xd, xk, xp, xn, xs, xg⟩ : Ev)) HP16.out HP16.out.lt) (by rw [HLEN.out]; omega) HD16.out.size ?_
           intro v1 w17 ho hg
           have HD17 : Hid (Below w6.heap.size w6 w17) := Lib.hid (Below.grown_ HD16.out hg HD16.out.size (fun q hq => (HO16.out.lt q hq).1))
           have HB17 := Lib.hid (Below.step2 HD17.out HB6.out)
           have HK17 := Lib.hid (HK6.out.below HD17.out HK6.out.lt)
           have ho2 : w17.ownsRow w6.heap.size 24 6 v1 (n + 1) ((l ++ [(⟨xd, xk, xp, xn, xs, xg⟩ : Ev)]).flatMap Ev.cs) := by rw [← HL2.out]; exact ho
           obtain ⟨A5, c5, rfl, hr⟩ := Rws.of_own ho2 HL2.out
           have HRL := Lib.hid hr
           clear ho ho2 hg hr
           go_wp2
           refine behind_ok ⟨HK17.out.sixc, ?_⟩
           refine goes_call (i := 9) rfl (by kernel_rfl) ?_
           refine wpList_met (by kernel_rfl) ?_
           go_wp2_with (go_at_call 18; refine (sameRecord_eq A3 A5 (n + 1) c3 c5 _ _ (HRA.out.below HD17.out (Nat.le_refl _) HD17.out.size) HRL.out).mono ?_; rintro e w18 ⟨hb18, rfl⟩; have HM18 := Lib.hid hb18; have HD18 : Hid (Below w6.heap.size w6 w18) := Lib.hid (by have hb0 := HD17.out; refine Below.trans ?_ (hb18.mono ?_); (exact (by repeat (first | with_reducible exact Below.refl _ _ | with_reducible assumption | with_reducible refine Below.drew ?_ | with_reducible refine Below.drewN ?_ _ | with_reducible refine Below.alloc2 ?_ _ | with_reducible refine Below.alloc ?_ (by first | omega | (simp <;> omega)) _ | with_reducible refine Below.setCell ?_ (by first | omega | (simp <;> omega)) _ | with_reducible refine Below.step2 (by with_reducible assumption) ?_ | with_reducible refine Below.step (by with_reducible assumption) ?_ (by first | omega | (simp <;> omega))))); (first | omega | (have := HD17.out.size; simp; omega))); have HB18 := Lib.hid (Below.step2 HD18.out HB6.out); have HK18 := Lib.hid (HK6.out.below HD18.out HK6.out.lt); have ol18 := HK18.out.lt; clear hb18)
           refine behind_ok ⟨HK18.out.sixc, ?_⟩
           refine goes_call (i := 10) rfl (by kernel_rfl) ?_
           go_wp2
           refine behind_ok ⟨HK18.out.sixc, ?_⟩
           refine goes_call (i := 11) rfl (by kernel_rfl) ?_
           go_wp2
           refine behind_ok ⟨HK18.out.sixc, ?_⟩
           refine goes_done (by kernel_rfl) ?_
           go_wp2
           go_ret
           exact ⟨HB18.out, rfl⟩
         · refine wpList_met (by kernel_rfl) ?_
           go_wp2
           obtain ⟨w15, hnew⟩ : ∃ x, x = w14.alloc (.cells #[.int .i64 xd, .int .i64 xk, .string xp, .int .i64 xn, .bool xs, .bool xg] 24) := ⟨_, rfl⟩
           rw [← hnew]
           have hb15 : Below w14.heap.size w14 w15 := by rw [hnew]; have hb0 := Below.refl w14.heap.size w14; exact (by repeat (first | with_reducible exact Below.refl _ _ | with_reducible assumption | with_reducible refine Below.drew ?_ | with_reducible refine Below.drewN ?_ _ | with_reducible refine Below.alloc2 ?_ _ | with_reducible refine Below.alloc ?_ (by first | omega | (simp <;> omega)) _ | with_reducible refine Below.setCell ?_ (by first | omega | (simp <;> omega)) _ | with_reducible refine Below.step2 (by with_reducible assumption) ?_ | with_reducible refine Below.step (by with_reducible assumption) ?_ (by first | omega | (simp <;> omega))))
           have HP15 : Hid (Bk w15 w14.heap.size 24 #[.int .i64 xd, .int .i64 xk, .string xp, .int .i64 xn, .bool xs, .bool xg]) := Lib.hid (by rw [hnew]; exact Bk.at_ rfl)
           clear hnew
           have HM15 := Lib.hid hb15; have HD15 : Hid (Below w6.heap.size w6 w15) := Lib.hid (by have hb0 := HD14.out; refine Below.trans ?_ (hb15.mono ?_); (exact (by repeat (first | with_reducible exact Below.refl _ _ | with_reducible assumption | with_reducible refine Below.drew ?_ | with_reducible refine Below.drewN ?_ _ | with_reducible refine Below.alloc2 ?_ _ | with_reducible refine Below.alloc ?_ (by first | omega | (simp <;> omega)) _ | with_reducible refine Below.setCell ?_ (by first | omega | (simp <;> omega)) _ | with_reducible refine Below.step2 (by with_reducible assumption) ?_ | with_reducible refine Below.step (by with_reducible assumption) ?_ (by first | omega | (simp <;> omega))))); (first | omega | (have := HD14.out.size; simp; omega))); have HB15 := Lib.hid (Below.step2 HD15.out HB6.out); have HK15 := Lib.hid (HK6.out.below HD15.out HK6.out.lt); have ol15 := HK15.out.lt; clear hb15
           refine behind_ok ⟨HK15.out.sixc, ?_⟩
           refine goes_call (i := 5) rfl (by kernel_rfl) ?_
           refine wpList_met (by kernel_rfl) ?_
           go_wp2_with (go_at_call 13; refine (CP.out _ (by have hb0 := HB15.out; exact (by repeat (first | with_reducible exact Below.refl _ _ | with_reducible assumption | with_reducible refine Below.drew ?_ | with_reducible refine Below.drewN ?_ _ | with_reducible refine Below.alloc2 ?_ _ | with_reducible refine Below.alloc ?_ (by first | omega | (simp <;> omega)) _ | with_reducible refine Below.setCell ?_ (by first | omega | (simp <;> omega)) _ | with_reducible refine Below.step2 (by with_reducible assumption) ?_ | with_reducible refine Below.step (by with_reducible assumption) ?_ (by first | omega | (simp <;> omega)))))).mono ?_; rintro e w16 ⟨hb16, v0, rfl, hown16⟩; have HO16 : Hid (w16.ownsRow w6.heap.size 24 6 v0 n (l.flatMap Ev.cs)) := Lib.hid (own_base hown16 HD15.out.size); clear hown16; have HM16 := Lib.hid hb16; have HD16 : Hid (Below w6.heap.size w6 w16) := Lib.hid (by have hb0 := HD15.out; refine Below.trans ?_ (hb16.mono ?_); (exact (by repeat (first | with_reducible exact Below.refl _ _ | with_reducible assumption | with_reducible refine Below.drew ?_ | with_reducible refine Below.drewN ?_ _ | with_reducible refine Below.alloc2 ?_ _ | with_reducible refine Below.alloc ?_ (by first | omega | (simp <;> omega)) _ | with_reducible refine Below.setCell ?_ (by first | omega | (simp <;> omega)) _ | with_reducible refine Below.step2 (by with_reducible assumption) ?_ | with_reducible refine Below.step (by with_reducible assumption) ?_ (by first | omega | (simp <;> omega))))); (first | omega | (have := HD15.out.size; simp; omega))); have HB16 := Lib.hid (Below.step2 HD16.out HB6.out); have HK16 := Lib.hid (HK6.out.below HD16.out HK6.out.lt); have ol16 := HK16.out.lt; clear hb16)
           refine behind_ok ⟨HK16.out.sixc, ?_⟩
           have HP16 := Lib.hid ((Bk.drew HP15.out).below HM16.out HP15.out.lt)
           refine goes_call (i := 8) rfl (by kernel_rfl) ?_
           refine wpList_met (by kernel_rfl) ?_
           refine app_ev (W := l) (H := [(⟨xd, xk, xp, xn, xs, xg⟩ : Ev)]) (base := w6.heap.size) (vw := v0) (B := w16.heap.size) (by rw [HLEN.out]; exact HO16.out) rfl _ _ rfl rfl rfl (Bk.rowE (x := (⟨xd, xk, xp, xn, xs, xg⟩ : Ev)) HP16.out HP16.out.lt) (by rw [HLEN.out]; omega) HD16.out.size ?_
           intro v1 w17 ho hg
           have HD17 : Hid (Below w6.heap.size w6 w17) := Lib.hid (Below.grown_ HD16.out hg HD16.out.size (fun q hq => (HO16.out.lt q hq).1))
           have HB17 := Lib.hid (Below.step2 HD17.out HB6.out)
           have HK17 := Lib.hid (HK6.out.below HD17.out HK6.out.lt)
           have ho2 : w17.ownsRow w6.heap.size 24 6 v1 (n + 1) ((l ++ [(⟨xd, xk, xp, xn, xs, xg⟩ : Ev)]).flatMap Ev.cs) := by rw [← HL2.out]; exact ho
           obtain ⟨A5, c5, rfl, hr⟩ := Rws.of_own ho2 HL2.out
           have HRL := Lib.hid hr
           clear ho ho2 hg hr
           go_wp2
           refine behind_ok ⟨HK17.out.sixc, ?_⟩
           refine goes_call (i := 9) rfl (by kernel_rfl) ?_
           refine wpList_met (by kernel_rfl) ?_
           go_wp2_with (go_at_call 18; refine (sameRecord_eq A3 A5 (n + 1) c3 c5 _ _ (HRA.out.below HD17.out (Nat.le_refl _) HD17.out.size) HRL.out).mono ?_; rintro e w18 ⟨hb18, rfl⟩; have HM18 := Lib.hid hb18; have HD18 : Hid (Below w6.heap.size w6 w18) := Lib.hid (by have hb0 := HD17.out; refine Below.trans ?_ (hb18.mono ?_); (exact (by repeat (first | with_reducible exact Below.refl _ _ | with_reducible assumption | with_reducible refine Below.drew ?_ | with_reducible refine Below.drewN ?_ _ | with_reducible refine Below.alloc2 ?_ _ | with_reducible refine Below.alloc ?_ (by first | omega | (simp <;> omega)) _ | with_reducible refine Below.setCell ?_ (by first | omega | (simp <;> omega)) _ | with_reducible refine Below.step2 (by with_reducible assumption) ?_ | with_reducible refine Below.step (by with_reducible assumption) ?_ (by first | omega | (simp <;> omega))))); (first | omega | (have := HD17.out.size; simp; omega))); have HB18 := Lib.hid (Below.step2 HD18.out HB6.out); have HK18 := Lib.hid (HK6.out.below HD18.out HK6.out.lt); have ol18 := HK18.out.lt; clear hb18)
           refine behind_ok ⟨HK18.out.sixc, ?_⟩
           refine goes_call (i := 10) rfl (by kernel_rfl) ?_
           go_wp2
           refine behind_ok ⟨HK18.out.sixc, ?_⟩
           refine goes_call (i := 11) rfl (by kernel_rfl) ?_
           go_wp2
           refine behind_ok ⟨HK18.out.sixc, ?_⟩
           refine goes_done (by kernel_rfl) ?_
           go_wp2
           go_ret
           exact ⟨HB18.out, rfl⟩))

end Go.Proofs.Ytgjjjnofdjhikaa
