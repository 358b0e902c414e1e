/- The law RecordForgets, out of its callees' contracts. -/
import Derived.Test.YtgjjjnofdjhikaaForgMath9
import Derived.Test.YtgjjjnofdjhikaaInts9
import Derived.Test.YtgjjjnofdjhikaaLawDue9
namespace Go.Proofs.Ytgjjjnofdjhikaa
open Go Go.RowKit Go.WideShapes

set_option maxRecDepth 100000 in
set_option maxHeartbeats 4000000 in
theorem lawForg_long (A : Option Addr) (n c : Nat) (l : List Ev) (p : ByteArray) (day : Int) (w : World) (h : Rws Ev.cs 6 w w.heap.size A n c l) (hl : shB l = false ∨ 30 < p.size) :
    Calls Try.prog 8 #[.slice A n c, .string p, .int .i64 day] w fun e w' => Below w.heap.size w w' ∧ e = .returned (.bool true) := by
  obtain ⟨b, hb⟩ : ∃ b, shB l = b := ⟨_, rfl⟩
  have SH : Hid (∀ W, Below w.heap.size w W → Calls Try.prog 10 #[.slice A n c] W fun e w' => W = w' ∧ e = .returned (.bool b)) := Lib.hid fun W hW => by
    have := short_any A n c _ l W (h.below hW (Nat.le_refl _) hW.size)
    rwa [hb] at this
  rw [hb] at hl
  clear h hb
  cases b
  · clear hl
    go_enter Try.func8, Try.ntmps8
    go_wp2_with (first | (go_at_call 9; refine (awake_true _).mono ?_; rintro e w1 ⟨hb1, rfl⟩; have HB1 : Hid (Below w.heap.size w w1) := Lib.hid hb1; clear hb1) | (go_at_call 10; refine (SH.out _ HB1.out).mono ?_; rintro e w' ⟨rfl, rfl⟩))
    go_ret
    exact ⟨HB1.out, rfl⟩
  · have h30 : decide ((p.size : Int) > 30) = true := decide_eq_true (by
      rcases hl with h | h
      · cases h
      · omega)
    clear hl
    go_enter Try.func8, Try.ntmps8
    go_wp2_with (first | (go_at_call 9; refine (awake_true _).mono ?_; rintro e w1 ⟨hb1, rfl⟩; have HB1 : Hid (Below w.heap.size w w1) := Lib.hid hb1; clear hb1) | (go_at_call 10; refine (SH.out _ HB1.out).mono ?_; rintro e w' ⟨rfl, rfl⟩))
    go_ret
    exact ⟨HB1.out, rfl⟩
set_option maxRecDepth 100000 in
set_option maxHeartbeats 8000000 in
theorem lawForg_not (A : Option Addr) (n c : Nat) (l : List Ev) (p : ByteArray) (day : Int) (w : World) (h : Rws Ev.cs 6 w w.heap.size A n c l) (hl : shB l = true) (hp : p.size ≤ 30) (hq : ¬ (recErr l = 0 ∧ dayB day = true)) :
    Calls Try.prog 8 #[.slice A n c, .string p, .int .i64 day] w fun e w' => Below w.heap.size w w' ∧ e = .returned (.bool true) := by
  have hcap := h.cap
  have hmax := h.max
  have HLEN := Lib.hid h.len
  have H : Hid (∀ W, Below w.heap.size w W → Rws Ev.cs 6 W W.heap.size A n c l) := fun W hW => h.below hW (Nat.le_refl _) hW.size
  have hn405 := (shB_facts hl).1
  rw [HLEN.out] at hn405
  have hs : n ≤ 400 → ∀ x ∈ l, x.p.size ≤ 30 := fun hq => (shB_facts hl).2 (by rw [HLEN.out]; exact hq)
  have SH : Hid (∀ W, Below w.heap.size w W → Calls Try.prog 10 #[.slice A n c] W fun e w' => W = w' ∧ e = .returned (.bool true)) := Lib.hid fun W hW => by
    have := short_any A n c _ l W (H.out W hW)
    rwa [hl] at this
  have h30 : decide ((p.size : Int) > 30) = false := decide_eq_false (by omega)
  obtain ⟨T, hT⟩ : ∃ T, recErr l = T := ⟨_, rfl⟩
  have RC : Hid (∀ W, Below w.heap.size w W → Calls Try.prog 11 #[.slice A n c] W fun e w' => Below W.heap.size W w' ∧ e = .returned (.int .i64 T)) := Lib.hid fun W hW => by
    have := refCheckRec_all A n c l W (H.out W hW) hs
    rwa [hT] at this
  rw [hT] at hq
  clear h hs hT hl hp
  by_cases hT0 : T = 0
  · obtain ⟨v, hv⟩ : ∃ v, dayB day = v := ⟨_, rfl⟩
    cases v
    · have HDY := Lib.hid hv
      subst hT0
      clear hq hv
      go_enter Try.func8, Try.ntmps8
      go_wp2_with (first | (go_at_call 9; refine (awake_true _).mono ?_; rintro e w1 ⟨hb1, rfl⟩; have HB1 : Hid (Below w.heap.size w w1) := Lib.hid hb1; clear hb1) | (go_at_call 10; refine (SH.out _ HB1.out).mono ?_; rintro e w' ⟨rfl, rfl⟩) | (go_at_call 11; refine (RC.out _ HB1.out).mono ?_; rintro e w2 ⟨hb2, rfl⟩; have HB2 : Hid (Below w.heap.size w w2) := Lib.hid (HB1.out.trans (hb2.mono HB1.out.size)); have HS2 := Lib.hid hb2; have ol2 := HB2.out.size; clear hb2) | (go_at_call 22; with_reducible refine (refIsDay_b HDY.out _).mono ?_; rintro e w' ⟨rfl, rfl⟩))
      go_ret
      exact ⟨HB2.out, rfl⟩
    · exact absurd ⟨hT0, hv⟩ hq
  · have h0 : (T != 0) = true := by simpa using hT0
    clear hq hT0
    go_enter Try.func8, Try.ntmps8
    go_wp2_with (first | (go_at_call 9; refine (awake_true _).mono ?_; rintro e w1 ⟨hb1, rfl⟩; have HB1 : Hid (Below w.heap.size w w1) := Lib.hid hb1; clear hb1) | (go_at_call 10; refine (SH.out _ HB1.out).mono ?_; rintro e w' ⟨rfl, rfl⟩) | (go_at_call 11; refine (RC.out _ HB1.out).mono ?_; rintro e w2 ⟨hb2, rfl⟩; have HB2 : Hid (Below w.heap.size w w2) := Lib.hid (HB1.out.trans (hb2.mono HB1.out.size)); have HS2 := Lib.hid hb2; have ol2 := HB2.out.size; clear hb2))
    go_ret
    exact ⟨HB2.out, rfl⟩
theorem qErr_in {l : List Ev} {p : ByteArray} {day : Int} (h1 : recErr l = 0) (h2 : dayB day = true) : qErr l p day = if inPl l p then 0 else 6 := by
  unfold qErr
  rw [if_pos h1, if_pos h2]
set_option maxRecDepth 100000 in
set_option maxHeartbeats 8000000 in
theorem lawForg_out (A : Option Addr) (n c : Nat) (l : List Ev) (p : ByteArray) (day : Int) (w : World) (h : Rws Ev.cs 6 w w.heap.size A n c l) (hl : shB l = true) (hp : p.size ≤ 30) (ho : ∀ x ∈ l, evOk x) (hR : recErr l = 0) (hD : dayB day = true) (hP : inPl (l.filter (upF day)) p = false) :
    Calls Try.prog 8 #[.slice A n c, .string p, .int .i64 day] w fun e w' => Below w.heap.size w w' ∧ e = .returned (.bool true) := by
  have hcap := h.cap
  have hmax := h.max
  have HLEN := Lib.hid h.len
  have H : Hid (∀ W, Below w.heap.size w W → Rws Ev.cs 6 W W.heap.size A n c l) := fun W hW => h.below hW (Nat.le_refl _) hW.size
  have hn405 := (shB_facts hl).1
  rw [HLEN.out] at hn405
  have hs : n ≤ 400 → ∀ x ∈ l, x.p.size ≤ 30 := fun hq => (shB_facts hl).2 (by rw [HLEN.out]; exact hq)
  have SH : Hid (∀ W, Below w.heap.size w W → Calls Try.prog 10 #[.slice A n c] W fun e w' => W = w' ∧ e = .returned (.bool true)) := Lib.hid fun W hW => by
    have := short_any A n c _ l W (H.out W hW)
    rwa [hl] at this
  have h30 : decide ((p.size : Int) > 30) = false := decide_eq_false (by omega)
  have hn4 := recErr_small hR
  rw [HLEN.out] at hn4
  have hs2 := hs hn4
  have RC : Hid (∀ W, Below w.heap.size w W → Calls Try.prog 11 #[.slice A n c] W fun e w' => Below W.heap.size W w' ∧ e = .returned (.int .i64 0)) := Lib.hid fun W hW => by
    have := refCheckRec_all A n c l W (H.out W hW) hs
    rwa [hR] at this
  have HDY := Lib.hid hD
  have CP : Hid (∀ W, Below w.heap.size w W → Calls Try.prog 13 #[.slice A n c] W fun e w' => Below W.heap.size W w' ∧ ∃ v, e = .returned v ∧ w'.ownsRow W.heap.size 24 6 v n (l.flatMap Ev.cs)) := Lib.hid fun W hW =>
    copied_any A n c l W (H.out W hW) (by omega)
  have UP : Hid (∀ W, Below w.heap.size w W → Calls Try.prog 35 #[.slice A n c, .int .i64 day] W fun e w' => Below W.heap.size W w' ∧ ∃ v, e = .returned v ∧ w'.ownsRow W.heap.size 24 6 v (l.filter (upF day)).length ((l.filter (upF day)).flatMap Ev.cs)) := Lib.hid fun W hW => refUptoE_any A n c l day W (H.out W hW) (by omega)
  have hU1 := up_rec hR day
  have hU2 : ∀ x ∈ l.filter (upF day), x.p.size ≤ 30 := fun x hx => hs2 x (List.mem_filter.1 hx).1
  have hU3 : ∀ x ∈ l.filter (upF day), evOk x := fun x hx => ho x (List.mem_filter.1 hx).1
  have hU4 := List.length_filter_le (upF day) l
  rw [HLEN.out] at hU4
  have RU : Hid (∀ A c W, Rws Ev.cs 6 W W.heap.size A (l.filter (upF day)).length c (l.filter (upF day)) → Calls Try.prog 19 #[.slice A (l.filter (upF day)).length c, .string p, .int .i64 day] W fun e w' => Below W.heap.size W w' ∧ e = .returned (.tuple #[.slice none 0 0, .int .i64 6])) := Lib.hid fun A c W hW => reasP_bad A _ c _ p day W hW (fun _ => hU2) hU3 6 (by rw [qErr_in hU1 hD, hP]; rfl) (by decide)
  by_cases hPl : inPl l p = true
  · have hp0 := (inPl_iff.1 hPl).1
    have RL : Hid (∀ A c W, Rws Ev.cs 6 W W.heap.size A n c l → Calls Try.prog 19 #[.slice A n c, .string p, .int .i64 day] W fun e w' => Below W.heap.size W w' ∧ ∃ v, e = .returned (.tuple #[v, .int .i64 0]) ∧ w'.ownsRow W.heap.size 3 1 v 3 (i64s [0, 1, 2])) := Lib.hid fun A c W hW => by
      have := reasP_ok A n c l p day W hW hs2 ho (by rw [qErr_in hR hD, hPl]; rfl)
      rwa [reasons_none hp0 hP] at this
    generalize l.filter (upF day) = U at UP RU hU4
    obtain ⟨N, hN⟩ : ∃ N, U.length = N := ⟨_, rfl⟩
    rw [hN] at UP RU hU4
    have HNL := Lib.hid hN
    clear h hs hl hp ho hR hD hP hs2 hU1 hU2 hU3 hN hPl hp0
    go_enter Try.func8, Try.ntmps8
    go_wp2_with (first | (go_at_call 9; refine (awake_true _).mono ?_; rintro e w1 ⟨hb1, rfl⟩; have HB1 : Hid (Below w.heap.size w w1) := Lib.hid hb1; clear hb1) | (go_at_call 10; refine (SH.out _ HB1.out).mono ?_; rintro e w' ⟨rfl, rfl⟩) | (go_at_call 11; refine (RC.out _ HB1.out).mono ?_; rintro e w2 ⟨hb2, rfl⟩; have HB2 : Hid (Below w.heap.size w w2) := Lib.hid (HB1.out.trans (hb2.mono HB1.out.size)); have HS2 := Lib.hid hb2; have ol2 := HB2.out.size; clear hb2) | (go_at_call 22; with_reducible refine (refIsDay_b HDY.out _).mono ?_; rintro e w' ⟨rfl, rfl⟩) | (go_at_call 35; refine (UP.out _ HB2.out).mono ?_; rintro e w3 ⟨hb3, v, rfl, hown⟩; obtain ⟨A3, c3, rfl, hr⟩ := Rws.of_own hown HNL.out; have HR3 := Lib.hid hr; have CQ : Hid (∀ W, Below w3.heap.size w3 W → Calls Try.prog 13 #[.slice A3 N c3] W fun e w' => Below W.heap.size W w' ∧ ∃ v, e = .returned v ∧ w'.ownsRow W.heap.size 24 6 v N (U.flatMap Ev.cs)) := Lib.hid (fun W hW => copied_any A3 N c3 U W (hr.below hW (Nat.le_refl _) hW.size) (by omega)); clear hown hr; have HB3 : Hid (Below w.heap.size w w3) := Lib.hid (HB2.out.trans (hb3.mono HB2.out.size)); have HS3 := Lib.hid hb3; have ol3 := HB3.out.size; clear hb3) | (go_at_call 25; refine (ints_any _ _ 3 _ 3 3 [0, 1, 2] [0, 1, 2] _ ((HX5.out.below (bel2 HS6.out HS7.out) (Nat.le_refl _) (bel2 HS6.out HS7.out).size).below ((Below.refl _ w7).alloc (Nat.le_refl _) _) (Nat.le_refl _) (by simp)) (Nums.of_bk (t := 3) (Bk.at_ rfl) (by simp) rfl (Nat.le_refl _) (by omega))).mono ?_; rw [decide_eq_true rfl]; rintro e w8 ⟨hb8, rfl⟩; have HB8 : Hid (Below w.heap.size w w8) := Lib.hid ((HB7.out.alloc HB7.out.size _).trans (hb8.mono (by have := HB7.out.size; simp; omega))); clear hb8) | (go_at_call 19; refine (RU.out _ _ _ HR6.out).mono ?_; rintro e w7 ⟨hb7, rfl⟩; have HB7 : Hid (Below w.heap.size w w7) := Lib.hid (HB6.out.trans (hb7.mono HB6.out.size)); have HS7 := Lib.hid hb7; have ol7 := HB7.out.size; clear hb7) | (go_at_call 19; refine (RL.out _ _ _ HR4.out).mono ?_; rintro e w5 ⟨hb5, v, rfl, hown⟩; obtain ⟨X5, d5, rfl, -⟩ := Sl.of_own hown; have HX5 := Lib.hid (Nums.own hown); clear hown; have HB5 : Hid (Below w.heap.size w w5) := Lib.hid (HB4.out.trans (hb5.mono HB4.out.size)); have HS5 := Lib.hid hb5; have ol5 := HB5.out.size; clear hb5) | (go_at_call 13; refine (CQ.out _ (bel2 HS4.out HS5.out)).mono ?_; rintro e w6 ⟨hb6, v, rfl, hown⟩; obtain ⟨A6, c6, rfl, hr⟩ := Rws.of_own hown HNL.out; have HR6 := Lib.hid hr; clear hown hr; have HB6 : Hid (Below w.heap.size w w6) := Lib.hid (HB5.out.trans (hb6.mono HB5.out.size)); have HS6 := Lib.hid hb6; have ol6 := HB6.out.size; clear hb6) | (go_at_call 13; refine (CP.out _ HB3.out).mono ?_; rintro e w4 ⟨hb4, v, rfl, hown⟩; obtain ⟨A4, c4, rfl, hr⟩ := Rws.of_own hown HLEN.out; have HR4 := Lib.hid hr; clear hown hr; have HB4 : Hid (Below w.heap.size w w4) := Lib.hid (HB3.out.trans (hb4.mono HB3.out.size)); have HS4 := Lib.hid hb4; have ol4 := HB4.out.size; clear hb4))
    go_ret
    exact ⟨HB8.out, rfl⟩
  · have hPl : inPl l p = false := by simpa using hPl
    have RL : Hid (∀ A c W, Rws Ev.cs 6 W W.heap.size A n c l → Calls Try.prog 19 #[.slice A n c, .string p, .int .i64 day] W fun e w' => Below W.heap.size W w' ∧ e = .returned (.tuple #[.slice none 0 0, .int .i64 6])) := Lib.hid fun A c W hW => reasP_bad A n c l p day W hW hs ho 6 (by rw [qErr_in hR hD, hPl]; rfl) (by decide)
    generalize l.filter (upF day) = U at UP RU hU4
    obtain ⟨N, hN⟩ : ∃ N, U.length = N := ⟨_, rfl⟩
    rw [hN] at UP RU hU4
    have HNL := Lib.hid hN
    clear h hs hl hp ho hR hD hP hs2 hU1 hU2 hU3 hN hPl
    go_enter Try.func8, Try.ntmps8
    go_wp2_with (first | (go_at_call 9; refine (awake_true _).mono ?_; rintro e w1 ⟨hb1, rfl⟩; have HB1 : Hid (Below w.heap.size w w1) := Lib.hid hb1; clear hb1) | (go_at_call 10; refine (SH.out _ HB1.out).mono ?_; rintro e w' ⟨rfl, rfl⟩) | (go_at_call 11; refine (RC.out _ HB1.out).mono ?_; rintro e w2 ⟨hb2, rfl⟩; have HB2 : Hid (Below w.heap.size w w2) := Lib.hid (HB1.out.trans (hb2.mono HB1.out.size)); have HS2 := Lib.hid hb2; have ol2 := HB2.out.size; clear hb2) | (go_at_call 22; with_reducible refine (refIsDay_b HDY.out _).mono ?_; rintro e w' ⟨rfl, rfl⟩) | (go_at_call 35; refine (UP.out _ HB2.out).mono ?_; rintro e w3 ⟨hb3, v, rfl, hown⟩; obtain ⟨A3, c3, rfl, hr⟩ := Rws.of_own hown HNL.out; have HR3 := Lib.hid hr; have CQ : Hid (∀ W, Below w3.heap.size w3 W → Calls Try.prog 13 #[.slice A3 N c3] W fun e w' => Below W.heap.size W w' ∧ ∃ v, e = .returned v ∧ w'.ownsRow W.heap.size 24 6 v N (U.flatMap Ev.cs)) := Lib.hid (fun W hW => copied_any A3 N c3 U W (hr.below hW (Nat.le_refl _) hW.size) (by omega)); clear hown hr; have HB3 : Hid (Below w.heap.size w w3) := Lib.hid (HB2.out.trans (hb3.mono HB2.out.size)); have HS3 := Lib.hid hb3; have ol3 := HB3.out.size; clear hb3) | (go_at_call 19; refine (RU.out _ _ _ HR6.out).mono ?_; rintro e w7 ⟨hb7, rfl⟩; have HB7 : Hid (Below w.heap.size w w7) := Lib.hid (HB6.out.trans (hb7.mono HB6.out.size)); have HS7 := Lib.hid hb7; have ol7 := HB7.out.size; clear hb7) | (go_at_call 19; refine (RL.out _ _ _ HR4.out).mono ?_; rintro e w5 ⟨hb5, rfl⟩; have HB5 : Hid (Below w.heap.size w w5) := Lib.hid (HB4.out.trans (hb5.mono HB4.out.size)); have HS5 := Lib.hid hb5; have ol5 := HB5.out.size; clear hb5) | (go_at_call 13; refine (CQ.out _ (bel2 HS4.out HS5.out)).mono ?_; rintro e w6 ⟨hb6, v, rfl, hown⟩; obtain ⟨A6, c6, rfl, hr⟩ := Rws.of_own hown HNL.out; have HR6 := Lib.hid hr; clear hown hr; have HB6 : Hid (Below w.heap.size w w6) := Lib.hid (HB5.out.trans (hb6.mono HB5.out.size)); have HS6 := Lib.hid hb6; have ol6 := HB6.out.size; clear hb6) | (go_at_call 13; refine (CP.out _ HB3.out).mono ?_; rintro e w4 ⟨hb4, v, rfl, hown⟩; obtain ⟨A4, c4, rfl, hr⟩ := Rws.of_own hown HLEN.out; have HR4 := Lib.hid hr; clear hown hr; have HB4 : Hid (Below w.heap.size w w4) := Lib.hid (HB3.out.trans (hb4.mono HB3.out.size)); have HS4 := Lib.hid hb4; have ol4 := HB4.out.size; clear hb4))
    go_ret
    exact ⟨HB7.out, rfl⟩
set_option maxRecDepth 100000 in
set_option maxHeartbeats 8000000 in
theorem lawForg_in (A : Option Addr) (n c : Nat) (l : List Ev) (p : ByteArray) (day : Int) (w : World) (h : Rws Ev.cs 6 w w.heap.size A n c l) (hl : shB l = true) (hp : p.size ≤ 30) (ho : ∀ x ∈ l, evOk x) (hR : recErr l = 0) (hD : dayB day = true) (hP : inPl (l.filter (upF day)) p = true) :
    Calls Try.prog 8 #[.slice A n c, .string p, .int .i64 day] w fun e w' => Below w.heap.size w w' ∧ e = .returned (.bool true) := by
  have hcap := h.cap
  have hmax := h.max
  have HLEN := Lib.hid h.len
  have H : Hid (∀ W, Below w.heap.size w W → Rws Ev.cs 6 W W.heap.size A n c l) := fun W hW => h.below hW (Nat.le_refl _) hW.size
  have hn405 := (shB_facts hl).1
  rw [HLEN.out] at hn405
  have hs : n ≤ 400 → ∀ x ∈ l, x.p.size ≤ 30 := fun hq => (shB_facts hl).2 (by rw [HLEN.out]; exact hq)
  have SH : Hid (∀ W, Below w.heap.size w W → Calls Try.prog 10 #[.slice A n c] W fun e w' => W = w' ∧ e = .returned (.bool true)) := Lib.hid fun W hW => by
    have := short_any A n c _ l W (H.out W hW)
    rwa [hl] at this
  have h30 : decide ((p.size : Int) > 30) = false := decide_eq_false (by omega)
  have hn4 := recErr_small hR
  rw [HLEN.out] at hn4
  have hs2 := hs hn4
  have RC : Hid (∀ W, Below w.heap.size w W → Calls Try.prog 11 #[.slice A n c] W fun e w' => Below W.heap.size W w' ∧ e = .returned (.int .i64 0)) := Lib.hid fun W hW => by
    have := refCheckRec_all A n c l W (H.out W hW) hs
    rwa [hR] at this
  have HDY := Lib.hid hD
  have CP : Hid (∀ W, Below w.heap.size w W → Calls Try.prog 13 #[.slice A n c] W fun e w' => Below W.heap.size W w' ∧ ∃ v, e = .returned v ∧ w'.ownsRow W.heap.size 24 6 v n (l.flatMap Ev.cs)) := Lib.hid fun W hW =>
    copied_any A n c l W (H.out W hW) (by omega)
  have UP : Hid (∀ W, Below w.heap.size w W → Calls Try.prog 35 #[.slice A n c, .int .i64 day] W fun e w' => Below W.heap.size W w' ∧ ∃ v, e = .returned v ∧ w'.ownsRow W.heap.size 24 6 v (l.filter (upF day)).length ((l.filter (upF day)).flatMap Ev.cs)) := Lib.hid fun W hW => refUptoE_any A n c l day W (H.out W hW) (by omega)
  have hU1 := up_rec hR day
  have hU2 : ∀ x ∈ l.filter (upF day), x.p.size ≤ 30 := fun x hx => hs2 x (List.mem_filter.1 hx).1
  have hU3 : ∀ x ∈ l.filter (upF day), evOk x := fun x hx => ho x (List.mem_filter.1 hx).1
  have hU4 := List.length_filter_le (upF day) l
  rw [HLEN.out] at hU4
  have hPl := inPl_up hP
  have hn60 : l.length < 400 := by
    have h1 := hl
    unfold shB at h1
    split at h1
    · omega
    · have := of_decide_eq_true h1
      have := HLEN.out
      omega
  have hA := alt_rec hR hD hP hn60
  have hRd := alt_red l p day
  have hA2 : ∀ x ∈ l.filter (upF day) ++ [altE day p], x.p.size ≤ 30 := fun x hx => by
    rcases List.mem_append.1 hx with hx | hx
    · exact hU2 x hx
    · rw [List.mem_singleton.1 hx]; exact hp
  have hA3 : ∀ x ∈ l.filter (upF day) ++ [altE day p], evOk x := fun x hx => by
    rcases List.mem_append.1 hx with hx | hx
    · exact hU3 x hx
    · rw [List.mem_singleton.1 hx]; exact ⟨by simp [altE], by simp [altE]⟩
  have hA4 : inPl (l.filter (upF day) ++ [altE day p]) p = true := by
    obtain ⟨h0, x, hx, e⟩ := inPl_iff.1 hP
    exact inPl_iff.2 ⟨h0, x, List.mem_append_left _ hx, e⟩
  have RL : Hid (∀ A c W, Rws Ev.cs 6 W W.heap.size A n c l → Calls Try.prog 19 #[.slice A n c, .string p, .int .i64 day] W fun e w' => Below W.heap.size W w' ∧ ∃ v, e = .returned (.tuple #[v, .int .i64 0]) ∧ w'.ownsRow W.heap.size 3 1 v (reasonsR (l.filter (upF day)) p day).length (i64s (reasonsR (l.filter (upF day)) p day))) := Lib.hid fun A c W hW => reasP_ok A n c l p day W hW hs2 ho (by rw [qErr_in hR hD, hPl]; rfl)
  have RU : Hid (∀ A c W, Rws Ev.cs 6 W W.heap.size A (l.filter (upF day)).length c (l.filter (upF day)) → Calls Try.prog 19 #[.slice A (l.filter (upF day)).length c, .string p, .int .i64 day] W fun e w' => Below W.heap.size W w' ∧ ∃ v, e = .returned (.tuple #[v, .int .i64 0]) ∧ w'.ownsRow W.heap.size 3 1 v (reasonsR (l.filter (upF day)) p day).length (i64s (reasonsR (l.filter (upF day)) p day))) := Lib.hid fun A c W hW => by
    have := reasP_ok A _ c _ p day W hW hU2 hU3 (by rw [qErr_in hU1 hD, hP]; rfl)
    rwa [up_up] at this
  have AD : Hid (∀ A c W, Rws Ev.cs 6 W W.heap.size A (l.filter (upF day)).length c (l.filter (upF day)) → Calls Try.prog 14 #[.slice A (l.filter (upF day)).length c, .agg #[.int .i64 day, .int .i64 6, .string p, .int .i64 0, .bool false, .bool false]] W fun e w' => Below W.heap.size W w' ∧ ∃ A' c', e = .returned (.tuple #[.slice A' ((l.filter (upF day)).length + 1) c', .int .i64 0]) ∧ Rws Ev.cs 6 w' w'.heap.size A' ((l.filter (upF day)).length + 1) c' (l.filter (upF day) ++ [altE day p])) := Lib.hid fun A c W hW =>
    add_ok A _ c _ day 6 0 p false false W hW hU2 hU3 hU1 hp ⟨by simp, by simp⟩ 0 hA
  have TA : Hid (∀ A c W, Rws Ev.cs 6 W W.heap.size A ((l.filter (upF day)).length + 1) c (l.filter (upF day) ++ [altE day p]) → Calls Try.prog 20 #[.slice A ((l.filter (upF day)).length + 1) c, .string p, .int .i64 day] W fun e w' => Below W.heap.size W w' ∧ e = .returned (.tuple #[.int .i64 0, .int .i64 0])) := Lib.hid fun A c W hW => by
    have := tagP_ok A _ c _ p day W hW hA2 hA3 (by rw [qErr_in hA hD, hA4]; rfl)
    rwa [hRd] at this
  generalize reasonsR (l.filter (upF day)) p day = LR at RL RU
  clear hRd hA2 hA3 hA4 hA
  generalize l.filter (upF day) ++ [altE day p] = V at AD TA
  generalize l.filter (upF day) = U at UP RU hU4 AD TA
  obtain ⟨N, hN⟩ : ∃ N, U.length = N := ⟨_, rfl⟩
  rw [hN] at UP RU hU4 AD TA
  have HNL := Lib.hid hN
  clear h hs hl hp ho hR hD hP hs2 hU1 hU2 hU3 hN hPl
  go_enter Try.func8, Try.ntmps8
  go_wp2_with (first | (go_at_call 9; refine (awake_true _).mono ?_; rintro e w1 ⟨hb1, rfl⟩; have HB1 : Hid (Below w.heap.size w w1) := Lib.hid hb1; clear hb1) | (go_at_call 10; refine (SH.out _ HB1.out).mono ?_; rintro e w' ⟨rfl, rfl⟩) | (go_at_call 11; refine (RC.out _ HB1.out).mono ?_; rintro e w2 ⟨hb2, rfl⟩; have HB2 : Hid (Below w.heap.size w w2) := Lib.hid (HB1.out.trans (hb2.mono HB1.out.size)); have HS2 := Lib.hid hb2; have ol2 := HB2.out.size; clear hb2) | (go_at_call 22; with_reducible refine (refIsDay_b HDY.out _).mono ?_; rintro e w' ⟨rfl, rfl⟩) | (go_at_call 35; refine (UP.out _ HB2.out).mono ?_; rintro e w3 ⟨hb3, v, rfl, hown⟩; obtain ⟨A3, c3, rfl, hr⟩ := Rws.of_own hown HNL.out; have HR3 := Lib.hid hr; have CQ : Hid (∀ W, Below w3.heap.size w3 W → Calls Try.prog 13 #[.slice A3 N c3] W fun e w' => Below W.heap.size W w' ∧ ∃ v, e = .returned v ∧ w'.ownsRow W.heap.size 24 6 v N (U.flatMap Ev.cs)) := Lib.hid (fun W hW => copied_any A3 N c3 U W (hr.below hW (Nat.le_refl _) hW.size) (by omega)); clear hown hr; have HB3 : Hid (Below w.heap.size w w3) := Lib.hid (HB2.out.trans (hb3.mono HB2.out.size)); have HS3 := Lib.hid hb3; have ol3 := HB3.out.size; clear hb3) | (go_at_call 19; refine (RU.out _ _ _ HR6.out).mono ?_; rintro e w7 ⟨hb7, v, rfl, hown⟩; obtain ⟨X7, d7, rfl, -⟩ := Sl.of_own hown; have HX7 := Lib.hid (Nums.own hown); clear hown; have HB7 : Hid (Below w.heap.size w w7) := Lib.hid (HB6.out.trans (hb7.mono HB6.out.size)); have HS7 := Lib.hid hb7; have ol7 := HB7.out.size; clear hb7) | (go_at_call 19; refine (RL.out _ _ _ HR4.out).mono ?_; rintro e w5 ⟨hb5, v, rfl, hown⟩; obtain ⟨X5, d5, rfl, -⟩ := Sl.of_own hown; have HX5 := Lib.hid (Nums.own hown); clear hown; have HB5 : Hid (Below w.heap.size w w5) := Lib.hid (HB4.out.trans (hb5.mono HB4.out.size)); have HS5 := Lib.hid hb5; have ol5 := HB5.out.size; clear hb5) | (go_at_call 25; refine (ints_any _ _ _ _ _ _ _ _ _ (HX5.out.below (bel2 HS6.out HS7.out) (Nat.le_refl _) (bel2 HS6.out HS7.out).size) HX7.out).mono ?_; rw [decide_eq_true rfl]; rintro e w8 ⟨hb8, rfl⟩; have HB8 : Hid (Below w.heap.size w w8) := Lib.hid (HB7.out.trans (hb8.mono HB7.out.size)); have HS8 := Lib.hid hb8; have ol8 := HB8.out.size; clear hb8) | (go_at_call 14; refine (AD.out _ _ _ HR9.out).mono ?_; rintro e w10 ⟨hb10, A10, c10, rfl, hr⟩; have HR10 := Lib.hid hr; clear hr; have HB10 : Hid (Below w.heap.size w w10) := Lib.hid (HB9.out.trans (hb10.mono HB9.out.size)); have HS10 := Lib.hid hb10; have ol10 := HB10.out.size; clear hb10) | (go_at_call 20; refine (TA.out _ _ _ HR10.out).mono ?_; rintro e w11 ⟨hb11, rfl⟩; have HB11 : Hid (Below w.heap.size w w11) := Lib.hid (HB10.out.trans (hb11.mono HB10.out.size)); have HS11 := Lib.hid hb11; have ol11 := HB11.out.size; clear hb11) | (go_at_call 13; refine (CQ.out _ (bel2 (bel4 HS4.out HS5.out HS6.out HS7.out) HS8.out)).mono ?_; rintro e w9 ⟨hb9, v, rfl, hown⟩; obtain ⟨A9, c9, rfl, hr⟩ := Rws.of_own hown HNL.out; have HR9 := Lib.hid hr; clear hown hr; have HB9 : Hid (Below w.heap.size w w9) := Lib.hid (HB8.out.trans (hb9.mono HB8.out.size)); have HS9 := Lib.hid hb9; have ol9 := HB9.out.size; clear hb9) | (go_at_call 13; refine (CQ.out _ (bel2 HS4.out HS5.out)).mono ?_; rintro e w6 ⟨hb6, v, rfl, hown⟩; obtain ⟨A6, c6, rfl, hr⟩ := Rws.of_own hown HNL.out; have HR6 := Lib.hid hr; clear hown hr; have HB6 : Hid (Below w.heap.size w w6) := Lib.hid (HB5.out.trans (hb6.mono HB5.out.size)); have HS6 := Lib.hid hb6; have ol6 := HB6.out.size; clear hb6) | (go_at_call 13; refine (CP.out _ HB3.out).mono ?_; rintro e w4 ⟨hb4, v, rfl, hown⟩; obtain ⟨A4, c4, rfl, hr⟩ := Rws.of_own hown HLEN.out; have HR4 := Lib.hid hr; clear hown hr; have HB4 : Hid (Below w.heap.size w w4) := Lib.hid (HB3.out.trans (hb4.mono HB3.out.size)); have HS4 := Lib.hid hb4; have ol4 := HB4.out.size; clear hb4))
  go_ret
  exact ⟨HB11.out, rfl⟩

/-- The law, for every record, platform and day. -/
theorem lawForg_any (A : Option Addr) (n c : Nat) (l : List Ev) (p : ByteArray) (day : Int) (w : World) (h : Rws Ev.cs 6 w w.heap.size A n c l) (ho : ∀ x ∈ l, evOk x) :
    Calls Try.prog 8 #[.slice A n c, .string p, .int .i64 day] w fun e w' => Below w.heap.size w w' ∧ e = .returned (.bool true) := by
  by_cases hl : shB l = true
  · by_cases hp : p.size ≤ 30
    · by_cases hq : recErr l = 0 ∧ dayB day = true
      · by_cases hP : inPl (l.filter (upF day)) p = true
        · exact lawForg_in A n c l p day w h hl hp ho hq.1 hq.2 hP
        · exact lawForg_out A n c l p day w h hl hp ho hq.1 hq.2 (by simpa using hP)
      · exact lawForg_not A n c l p day w h hl hp hq
    · exact lawForg_long A n c l p day w h (.inr (by omega))
  · exact lawForg_long A n c l p day w h (.inl (by simpa using hl))

end Go.Proofs.Ytgjjjnofdjhikaa
