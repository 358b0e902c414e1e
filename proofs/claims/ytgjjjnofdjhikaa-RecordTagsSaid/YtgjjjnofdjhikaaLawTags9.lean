/- The law RecordTags, out of its callees' contracts. -/
import Derived.Test.YtgjjjnofdjhikaaDefG9
import Derived.Test.YtgjjjnofdjhikaaInts9
import Derived.Test.YtgjjjnofdjhikaaLawDue9
namespace Go.Proofs.Ytgjjjnofdjhikaa
open Go Go.RowKit Go.WideShapes

theorem bel5 {a b c d e f : World} (h1 : Below a.heap.size a b) (h2 : Below b.heap.size b c) (h3 : Below c.heap.size c d) (h4 : Below d.heap.size d e) (h5 : Below e.heap.size e f) : Below a.heap.size a f := bel2 (bel4 h1 h2 h3 h4) h5
theorem bel7 {a b c d e f g h : World} (h1 : Below a.heap.size a b) (h2 : Below b.heap.size b c) (h3 : Below c.heap.size c d) (h4 : Below d.heap.size d e) (h5 : Below e.heap.size e f) (h6 : Below f.heap.size f g) (h7 : Below g.heap.size g h) : Below a.heap.size a h := bel2 (bel5 h1 h2 h3 h4 h5) (bel2 h6 h7)
set_option maxRecDepth 100000 in
set_option maxHeartbeats 4000000 in
theorem lawTags_long (A : Option Addr) (n c : Nat) (l : List Ev) (p : ByteArray) (day : Int) (w : World) (h : Rws Ev.cs 6 w w.heap.size A n c l) (hl : shB l = false ∨ 30 < p.size) :
    Calls Try.prog 4 #[.slice A n c, .string p, .int .i64 day] w fun e w' => Below w.heap.size w w' ∧ e = .returned (.bool true) := by
  obtain ⟨b, hb⟩ : ∃ b, shB l = b := ⟨_, rfl⟩
  have SH : Hid (∀ W, Below w.heap.size w W → Calls Try.prog 10 #[.slice A n c] W fun e w' => W = w' ∧ e = .returned (.bool b)) := Lib.hid fun W hW => by
    have := short_any A n c _ l W (h.below hW (Nat.le_refl _) hW.size)
    rwa [hb] at this
  rw [hb] at hl
  clear h hb
  cases b
  · clear hl
    go_enter Try.func4, Try.ntmps4
    go_wp2_with (first | (go_at_call 9; refine (awake_true _).mono ?_; rintro e w1 ⟨hb1, rfl⟩; have HB1 : Hid (Below w.heap.size w w1) := Lib.hid hb1; clear hb1) | (go_at_call 10; refine (SH.out _ HB1.out).mono ?_; rintro e w' ⟨rfl, rfl⟩))
    go_ret
    exact ⟨HB1.out, rfl⟩
  · have h30 : decide ((p.size : Int) > 30) = true := decide_eq_true (by
      rcases hl with h | h
      · cases h
      · omega)
    clear hl
    go_enter Try.func4, Try.ntmps4
    go_wp2_with (first | (go_at_call 9; refine (awake_true _).mono ?_; rintro e w1 ⟨hb1, rfl⟩; have HB1 : Hid (Below w.heap.size w w1) := Lib.hid hb1; clear hb1) | (go_at_call 10; refine (SH.out _ HB1.out).mono ?_; rintro e w' ⟨rfl, rfl⟩))
    go_ret
    exact ⟨HB1.out, rfl⟩
set_option maxRecDepth 100000 in
set_option maxHeartbeats 8000000 in
theorem lawTags_bad (A : Option Addr) (n c : Nat) (l : List Ev) (p : ByteArray) (day : Int) (w : World) (h : Rws Ev.cs 6 w w.heap.size A n c l) (hl : shB l = true) (hp : p.size ≤ 30) (ho : ∀ x ∈ l, evOk x) (E : Int) (hE : qErr l p day = E) (h0 : E ≠ 0) :
    Calls Try.prog 4 #[.slice A n c, .string p, .int .i64 day] w fun e w' => Below w.heap.size w w' ∧ e = .returned (.bool true) := by
  have hcap := h.cap
  have hmax := h.max
  have HLEN := Lib.hid h.len
  have H : Hid (∀ W, Below w.heap.size w W → Rws Ev.cs 6 W W.heap.size A n c l) := fun W hW => h.below hW (Nat.le_refl _) hW.size
  have hn405 := (shB_facts hl).1
  rw [HLEN.out] at hn405
  have hs : n ≤ 400 → ∀ x ∈ l, x.p.size ≤ 30 := fun hq => (shB_facts hl).2 (by rw [HLEN.out]; exact hq)
  have SH : Hid (∀ W, Below w.heap.size w W → Calls Try.prog 10 #[.slice A n c] W fun e w' => W = w' ∧ e = .returned (.bool true)) := Lib.hid fun W hW => by
    have := short_any A n c _ l W (H.out W hW)
    rwa [hl] at this
  have CP : Hid (∀ W, Below w.heap.size w W → Calls Try.prog 13 #[.slice A n c] W fun e w' => Below W.heap.size W w' ∧ ∃ v, e = .returned v ∧ w'.ownsRow W.heap.size 24 6 v n (l.flatMap Ev.cs)) := Lib.hid fun W hW =>
    copied_any A n c l W (H.out W hW) (by omega)
  have h30 : decide ((p.size : Int) > 30) = false := decide_eq_false (by omega)
  obtain ⟨T, hT⟩ : ∃ T, recErr l = T := ⟨_, rfl⟩
  have RC : Hid (∀ W, Below w.heap.size w W → Calls Try.prog 11 #[.slice A n c] W fun e w' => Below W.heap.size W w' ∧ e = .returned (.int .i64 T)) := Lib.hid fun W hW => by
    have := refCheckRec_all A n c l W (H.out W hW) hs
    rwa [hT] at this
  have RE : Hid (∀ A c W, Rws Ev.cs 6 W W.heap.size A n c l → Calls Try.prog 19 #[.slice A n c, .string p, .int .i64 day] W fun e w' => Below W.heap.size W w' ∧ e = .returned (.tuple #[.slice none 0 0, .int .i64 E])) := Lib.hid fun A c W hW => reasP_bad A n c l p day W hW hs ho E hE h0
  have TA : Hid (∀ A c W, Rws Ev.cs 6 W W.heap.size A n c l → Calls Try.prog 20 #[.slice A n c, .string p, .int .i64 day] W fun e w' => Below W.heap.size W w' ∧ e = .returned (.tuple #[.int .i64 0, .int .i64 E])) := Lib.hid fun A c W hW => tagP_bad A n c l p day W hW hs ho E hE h0
  have DE : Hid (∀ A c W, Rws Ev.cs 6 W W.heap.size A n c l → Calls Try.prog 21 #[.slice A n c, .string p, .int .i64 day] W fun e w' => Below W.heap.size W w' ∧ e = .returned (.tuple #[.slice none 0 0, .int .i64 E])) := Lib.hid fun A c W hW => defP_bad A n c l p day W hW hs ho E hE h0
  have PLZ : Hid (T = 0 → ∀ W, Below w.heap.size w W → Calls Try.prog 17 #[.slice A n c] W fun e w' => Below W.heap.size W w' ∧ ∃ v, e = .returned v ∧ w'.ownsRow W.heap.size 9 1 v (platsR l).length (Ss (platsR l))) := Lib.hid fun hz W hW => by
    have := recErr_small (hT.trans hz)
    rw [HLEN.out] at this
    exact refPlatforms_any A n c l W (H.out W hW) (by omega)
  have HTX : Hid (∀ A c W, Rws tx 1 W W.heap.size A (platsR l).length c (platsR l) → Calls Try.prog 23 #[.slice A (platsR l).length c, .string p] W fun e w' => W = w' ∧ e = .returned (.bool (inPl l p))) := Lib.hid fun A c W hW => hasText_any A _ c _ _ p W hW
  have hE2 : (if T = 0 then (if dayB day then (if inPl l p then 0 else 6) else 2) else T) = E := by rw [← hT]; exact hE
  generalize platsR l = R at PLZ HTX
  generalize inPl l p = ip at HTX hE2
  clear h ho hs hT hl hE hp
  by_cases hT0 : T = 0
  · rw [if_pos hT0] at hE2
    subst hT0
    have PL := Lib.hid (PLZ.out rfl)
    clear PLZ
    obtain ⟨v, hv⟩ : ∃ v, dayB day = v := ⟨_, rfl⟩
    have HDY := Lib.hid hv
    rw [hv] at hE2
    clear hv
    cases v
    · obtain rfl : E = 2 := by simpa using hE2.symm
      clear hE2 h0
      go_enter Try.func4, Try.ntmps4
      go_wp2_with (first | (go_at_call 9; refine (awake_true _).mono ?_; rintro e w1 ⟨hb1, rfl⟩; have HB1 : Hid (Below w.heap.size w w1) := Lib.hid hb1; clear hb1) | (go_at_call 10; refine (SH.out _ HB1.out).mono ?_; rintro e w' ⟨rfl, rfl⟩) | (go_at_call 19; refine (RE.out _ _ _ HR2.out).mono ?_; rintro e w3 ⟨hb3, rfl⟩; have HB3 : Hid (Below w.heap.size w w3) := Lib.hid (HB2.out.trans (hb3.mono HB2.out.size)); have HS3 := Lib.hid hb3; have ol3 := HB3.out.size; clear hb3) | (go_at_call 20; refine (TA.out _ _ _ HR4.out).mono ?_; rintro e w5 ⟨hb5, rfl⟩; have HB5 : Hid (Below w.heap.size w w5) := Lib.hid (HB4.out.trans (hb5.mono HB4.out.size)); have HS5 := Lib.hid hb5; have ol5 := HB5.out.size; clear hb5) | (go_at_call 21; refine (DE.out _ _ _ HR6.out).mono ?_; rintro e w7 ⟨hb7, rfl⟩; have HB7 : Hid (Below w.heap.size w w7) := Lib.hid (HB6.out.trans (hb7.mono HB6.out.size)); have HS7 := Lib.hid hb7; have ol7 := HB7.out.size; clear hb7) | (go_at_call 11; refine (RC.out _ HB7.out).mono ?_; rintro e w8 ⟨hb8, rfl⟩; have HB8 : Hid (Below w.heap.size w w8) := Lib.hid (HB7.out.trans (hb8.mono HB7.out.size)); have HS8 := Lib.hid hb8; have ol8 := HB8.out.size; clear hb8) | (go_at_call 22; with_reducible refine (refIsDay_b HDY.out _).mono ?_; rintro e w' ⟨rfl, rfl⟩) | (go_at_call 13; refine (CP.out _ HB5.out).mono ?_; rintro e w6 ⟨hb6, v, rfl, hown⟩; obtain ⟨A6, c6, rfl, hr⟩ := Rws.of_own hown HLEN.out; have HR6 := Lib.hid hr; clear hown hr; have HB6 : Hid (Below w.heap.size w w6) := Lib.hid (HB5.out.trans (hb6.mono HB5.out.size)); have HS6 := Lib.hid hb6; have ol6 := HB6.out.size; clear hb6) | (go_at_call 13; refine (CP.out _ HB3.out).mono ?_; rintro e w4 ⟨hb4, v, rfl, hown⟩; obtain ⟨A4, c4, rfl, hr⟩ := Rws.of_own hown HLEN.out; have HR4 := Lib.hid hr; clear hown hr; have HB4 : Hid (Below w.heap.size w w4) := Lib.hid (HB3.out.trans (hb4.mono HB3.out.size)); have HS4 := Lib.hid hb4; have ol4 := HB4.out.size; clear hb4) | (go_at_call 13; refine (CP.out _ HB1.out).mono ?_; rintro e w2 ⟨hb2, v, rfl, hown⟩; obtain ⟨A2, c2, rfl, hr⟩ := Rws.of_own hown HLEN.out; have HR2 := Lib.hid hr; clear hown hr; have HB2 : Hid (Below w.heap.size w w2) := Lib.hid (HB1.out.trans (hb2.mono HB1.out.size)); have HS2 := Lib.hid hb2; have ol2 := HB2.out.size; clear hb2))
      go_ret
      exact ⟨HB8.out, rfl⟩
    · cases ip
      · obtain rfl : E = 6 := by simpa using hE2.symm
        have HT := HTX
        clear hE2 h0
        go_enter Try.func4, Try.ntmps4
        go_wp2_with (first | (go_at_call 9; refine (awake_true _).mono ?_; rintro e w1 ⟨hb1, rfl⟩; have HB1 : Hid (Below w.heap.size w w1) := Lib.hid hb1; clear hb1) | (go_at_call 10; refine (SH.out _ HB1.out).mono ?_; rintro e w' ⟨rfl, rfl⟩) | (go_at_call 19; refine (RE.out _ _ _ HR2.out).mono ?_; rintro e w3 ⟨hb3, rfl⟩; have HB3 : Hid (Below w.heap.size w w3) := Lib.hid (HB2.out.trans (hb3.mono HB2.out.size)); have HS3 := Lib.hid hb3; have ol3 := HB3.out.size; clear hb3) | (go_at_call 20; refine (TA.out _ _ _ HR4.out).mono ?_; rintro e w5 ⟨hb5, rfl⟩; have HB5 : Hid (Below w.heap.size w w5) := Lib.hid (HB4.out.trans (hb5.mono HB4.out.size)); have HS5 := Lib.hid hb5; have ol5 := HB5.out.size; clear hb5) | (go_at_call 21; refine (DE.out _ _ _ HR6.out).mono ?_; rintro e w7 ⟨hb7, rfl⟩; have HB7 : Hid (Below w.heap.size w w7) := Lib.hid (HB6.out.trans (hb7.mono HB6.out.size)); have HS7 := Lib.hid hb7; have ol7 := HB7.out.size; clear hb7) | (go_at_call 11; refine (RC.out _ HB7.out).mono ?_; rintro e w8 ⟨hb8, rfl⟩; have HB8 : Hid (Below w.heap.size w w8) := Lib.hid (HB7.out.trans (hb8.mono HB7.out.size)); have HS8 := Lib.hid hb8; have ol8 := HB8.out.size; clear hb8) | (go_at_call 22; with_reducible refine (refIsDay_b HDY.out _).mono ?_; rintro e w' ⟨rfl, rfl⟩) | (go_at_call 17; refine (PL.out _ HB8.out).mono ?_; rintro e w9 ⟨hb9, v, rfl, hown⟩; obtain ⟨X9, d9, rfl, hr⟩ := tx_own hown rfl; have HX9 := Lib.hid hr; clear hown hr; have HB9 : Hid (Below w.heap.size w w9) := Lib.hid (HB8.out.trans (hb9.mono HB8.out.size)); have HS9 := Lib.hid hb9; have ol9 := HB9.out.size; clear hb9) | (go_at_call 23; refine (HT.out _ _ _ HX9.out).mono ?_; rintro e w' ⟨rfl, rfl⟩) | (go_at_call 13; refine (CP.out _ HB5.out).mono ?_; rintro e w6 ⟨hb6, v, rfl, hown⟩; obtain ⟨A6, c6, rfl, hr⟩ := Rws.of_own hown HLEN.out; have HR6 := Lib.hid hr; clear hown hr; have HB6 : Hid (Below w.heap.size w w6) := Lib.hid (HB5.out.trans (hb6.mono HB5.out.size)); have HS6 := Lib.hid hb6; have ol6 := HB6.out.size; clear hb6) | (go_at_call 13; refine (CP.out _ HB3.out).mono ?_; rintro e w4 ⟨hb4, v, rfl, hown⟩; obtain ⟨A4, c4, rfl, hr⟩ := Rws.of_own hown HLEN.out; have HR4 := Lib.hid hr; clear hown hr; have HB4 : Hid (Below w.heap.size w w4) := Lib.hid (HB3.out.trans (hb4.mono HB3.out.size)); have HS4 := Lib.hid hb4; have ol4 := HB4.out.size; clear hb4) | (go_at_call 13; refine (CP.out _ HB1.out).mono ?_; rintro e w2 ⟨hb2, v, rfl, hown⟩; obtain ⟨A2, c2, rfl, hr⟩ := Rws.of_own hown HLEN.out; have HR2 := Lib.hid hr; clear hown hr; have HB2 : Hid (Below w.heap.size w w2) := Lib.hid (HB1.out.trans (hb2.mono HB1.out.size)); have HS2 := Lib.hid hb2; have ol2 := HB2.out.size; clear hb2))
        go_ret
        exact ⟨HB9.out, rfl⟩
      · exact absurd hE2.symm h0
  · obtain rfl : T = E := by rwa [if_neg hT0] at hE2
    have h0b : (T != 0) = true := by simpa using h0
    have h0c : (T == 0) = false := by simpa using h0
    clear hE2 h0 hT0
    go_enter Try.func4, Try.ntmps4
    go_wp2_with (first | (go_at_call 9; refine (awake_true _).mono ?_; rintro e w1 ⟨hb1, rfl⟩; have HB1 : Hid (Below w.heap.size w w1) := Lib.hid hb1; clear hb1) | (go_at_call 10; refine (SH.out _ HB1.out).mono ?_; rintro e w' ⟨rfl, rfl⟩) | (go_at_call 19; refine (RE.out _ _ _ HR2.out).mono ?_; rintro e w3 ⟨hb3, rfl⟩; have HB3 : Hid (Below w.heap.size w w3) := Lib.hid (HB2.out.trans (hb3.mono HB2.out.size)); have HS3 := Lib.hid hb3; have ol3 := HB3.out.size; clear hb3) | (go_at_call 20; refine (TA.out _ _ _ HR4.out).mono ?_; rintro e w5 ⟨hb5, rfl⟩; have HB5 : Hid (Below w.heap.size w w5) := Lib.hid (HB4.out.trans (hb5.mono HB4.out.size)); have HS5 := Lib.hid hb5; have ol5 := HB5.out.size; clear hb5) | (go_at_call 21; refine (DE.out _ _ _ HR6.out).mono ?_; rintro e w7 ⟨hb7, rfl⟩; have HB7 : Hid (Below w.heap.size w w7) := Lib.hid (HB6.out.trans (hb7.mono HB6.out.size)); have HS7 := Lib.hid hb7; have ol7 := HB7.out.size; clear hb7) | (go_at_call 11; refine (RC.out _ HB7.out).mono ?_; rintro e w8 ⟨hb8, rfl⟩; have HB8 : Hid (Below w.heap.size w w8) := Lib.hid (HB7.out.trans (hb8.mono HB7.out.size)); have HS8 := Lib.hid hb8; have ol8 := HB8.out.size; clear hb8) | (go_at_call 13; refine (CP.out _ HB5.out).mono ?_; rintro e w6 ⟨hb6, v, rfl, hown⟩; obtain ⟨A6, c6, rfl, hr⟩ := Rws.of_own hown HLEN.out; have HR6 := Lib.hid hr; clear hown hr; have HB6 : Hid (Below w.heap.size w w6) := Lib.hid (HB5.out.trans (hb6.mono HB5.out.size)); have HS6 := Lib.hid hb6; have ol6 := HB6.out.size; clear hb6) | (go_at_call 13; refine (CP.out _ HB3.out).mono ?_; rintro e w4 ⟨hb4, v, rfl, hown⟩; obtain ⟨A4, c4, rfl, hr⟩ := Rws.of_own hown HLEN.out; have HR4 := Lib.hid hr; clear hown hr; have HB4 : Hid (Below w.heap.size w w4) := Lib.hid (HB3.out.trans (hb4.mono HB3.out.size)); have HS4 := Lib.hid hb4; have ol4 := HB4.out.size; clear hb4) | (go_at_call 13; refine (CP.out _ HB1.out).mono ?_; rintro e w2 ⟨hb2, v, rfl, hown⟩; obtain ⟨A2, c2, rfl, hr⟩ := Rws.of_own hown HLEN.out; have HR2 := Lib.hid hr; clear hown hr; have HB2 : Hid (Below w.heap.size w w2) := Lib.hid (HB1.out.trans (hb2.mono HB1.out.size)); have HS2 := Lib.hid hb2; have ol2 := HB2.out.size; clear hb2))
    go_ret
    exact ⟨HB8.out, rfl⟩
set_option maxRecDepth 100000 in
set_option maxHeartbeats 8000000 in
theorem lawTags_ok (A : Option Addr) (n c : Nat) (l : List Ev) (p : ByteArray) (day : Int) (w : World) (h : Rws Ev.cs 6 w w.heap.size A n c l) (hl : shB l = true) (hp : p.size ≤ 30) (ho : ∀ x ∈ l, evOk x) (hE : qErr l p day = 0) :
    Calls Try.prog 4 #[.slice A n c, .string p, .int .i64 day] w fun e w' => Below w.heap.size w w' ∧ e = .returned (.bool true) := by
  have hcap := h.cap
  have hmax := h.max
  have HLEN := Lib.hid h.len
  have H : Hid (∀ W, Below w.heap.size w W → Rws Ev.cs 6 W W.heap.size A n c l) := fun W hW => h.below hW (Nat.le_refl _) hW.size
  have hn405 := (shB_facts hl).1
  rw [HLEN.out] at hn405
  have hs : n ≤ 400 → ∀ x ∈ l, x.p.size ≤ 30 := fun hq => (shB_facts hl).2 (by rw [HLEN.out]; exact hq)
  have SH : Hid (∀ W, Below w.heap.size w W → Calls Try.prog 10 #[.slice A n c] W fun e w' => W = w' ∧ e = .returned (.bool true)) := Lib.hid fun W hW => by
    have := short_any A n c _ l W (H.out W hW)
    rwa [hl] at this
  have CP : Hid (∀ W, Below w.heap.size w W → Calls Try.prog 13 #[.slice A n c] W fun e w' => Below W.heap.size W w' ∧ ∃ v, e = .returned v ∧ w'.ownsRow W.heap.size 24 6 v n (l.flatMap Ev.cs)) := Lib.hid fun W hW =>
    copied_any A n c l W (H.out W hW) (by omega)
  have h30 : decide ((p.size : Int) > 30) = false := decide_eq_false (by omega)
  obtain ⟨hR, hD, hP⟩ := qErr_zero hE
  have hn4 := recErr_small hR
  rw [HLEN.out] at hn4
  have hs2 := hs hn4
  have RC : Hid (∀ W, Below w.heap.size w W → Calls Try.prog 11 #[.slice A n c] W fun e w' => Below W.heap.size W w' ∧ e = .returned (.int .i64 0)) := Lib.hid fun W hW => by
    have := refCheckRec_all A n c l W (H.out W hW) hs
    rwa [hR] at this
  have HDY := Lib.hid hD
  obtain ⟨hd0, hd1⟩ := dayB_iff.1 hD
  have hdd := rec_days hR
  have RE : Hid (∀ A c W, Rws Ev.cs 6 W W.heap.size A n c l → Calls Try.prog 19 #[.slice A n c, .string p, .int .i64 day] W fun e w' => Below W.heap.size W w' ∧ ∃ v, e = .returned (.tuple #[v, .int .i64 0]) ∧ w'.ownsRow W.heap.size 3 1 v (reasonsR (l.filter (upF day)) p day).length (i64s (reasonsR (l.filter (upF day)) p day))) := Lib.hid fun A c W hW => reasP_ok A n c l p day W hW hs2 ho hE
  have TA : Hid (∀ A c W, Rws Ev.cs 6 W W.heap.size A n c l → Calls Try.prog 20 #[.slice A n c, .string p, .int .i64 day] W fun e w' => Below W.heap.size W w' ∧ e = .returned (.tuple #[.int .i64 (tagR (reasonsR (l.filter (upF day)) p day)), .int .i64 0])) := Lib.hid fun A c W hW => tagP_ok A n c l p day W hW hs2 ho hE
  have DE : Hid (∀ A c W, Rws Ev.cs 6 W W.heap.size A n c l → Calls Try.prog 21 #[.slice A n c, .string p, .int .i64 day] W fun e w' => Below W.heap.size W w' ∧ ∃ v, e = .returned (.tuple #[v, .int .i64 0]) ∧ w'.ownsRow W.heap.size 3 1 v (defR (l.filter (upF day)) p).length (i64s (defR (l.filter (upF day)) p))) := Lib.hid fun A c W hW => defP_ok A n c l p day W hW hs2 ho hp hE
  have PL : Hid (∀ W, Below w.heap.size w W → Calls Try.prog 17 #[.slice A n c] W fun e w' => Below W.heap.size W w' ∧ ∃ v, e = .returned v ∧ w'.ownsRow W.heap.size 9 1 v (platsR l).length (Ss (platsR l))) := Lib.hid fun W hW => refPlatforms_any A n c l W (H.out W hW) (by omega)
  have HT : Hid (∀ A c W, Rws tx 1 W W.heap.size A (platsR l).length c (platsR l) → Calls Try.prog 23 #[.slice A (platsR l).length c, .string p] W fun e w' => W = w' ∧ e = .returned (.bool true)) := Lib.hid fun A c W hW => by
    have := hasText_any A _ c _ _ p W hW
    rwa [show decide (p.data.toList ∈ platsR l) = true from hP] at this
  have RR : Hid (∀ W, Below w.heap.size w W → Calls Try.prog 24 #[.slice A n c, .string p, .int .i64 day] W fun e w' => Below W.heap.size W w' ∧ ∃ v, e = .returned v ∧ w'.ownsRow W.heap.size 3 1 v (reasonsR (l.filter (upF day)) p day).length (i64s (reasonsR (l.filter (upF day)) p day))) := Lib.hid fun W hW => reasonsR_any A n c l p day W (H.out W hW) hn4 hdd hd0 (by omega)
  have RD : Hid (∀ W, Below w.heap.size w W → Calls Try.prog 27 #[.slice A n c, .string p, .int .i64 day] W fun e w' => Below W.heap.size W w' ∧ ∃ v, e = .returned v ∧ w'.ownsRow W.heap.size 3 1 v (defR (l.filter (upF day)) p).length (i64s (defR (l.filter (upF day)) p))) := Lib.hid fun W hW => defR_any A n c l p day W (H.out W hW) hn4
  obtain ⟨TG, hTG⟩ : ∃ T, tagR (reasonsR (l.filter (upF day)) p day) = T := ⟨_, rfl⟩
  rw [hTG] at TA
  have HTG := Lib.hid hTG
  generalize platsR l = R at PL HT
  generalize reasonsR (l.filter (upF day)) p day = LR at RE RR HTG
  generalize defR (l.filter (upF day)) p = LD at DE RD
  clear h ho hs hl hE hR hD hP hp hTG hs2 hdd
  go_enter Try.func4, Try.ntmps4
  go_wp2_with (first | (go_at_call 9; refine (awake_true _).mono ?_; rintro e w1 ⟨hb1, rfl⟩; have HB1 : Hid (Below w.heap.size w w1) := Lib.hid hb1; clear hb1) | (go_at_call 10; refine (SH.out _ HB1.out).mono ?_; rintro e w' ⟨rfl, rfl⟩) | (go_at_call 19; refine (RE.out _ _ _ HR2.out).mono ?_; rintro e w3 ⟨hb3, v, rfl, hown⟩; obtain ⟨X3, d3, rfl, -⟩ := Sl.of_own hown; have HX3 := Lib.hid (Nums.own hown); clear hown; have HB3 : Hid (Below w.heap.size w w3) := Lib.hid (HB2.out.trans (hb3.mono HB2.out.size)); have HS3 := Lib.hid hb3; have ol3 := HB3.out.size; clear hb3) | (go_at_call 20; refine (TA.out _ _ _ HR4.out).mono ?_; rintro e w5 ⟨hb5, rfl⟩; have HB5 : Hid (Below w.heap.size w w5) := Lib.hid (HB4.out.trans (hb5.mono HB4.out.size)); have HS5 := Lib.hid hb5; have ol5 := HB5.out.size; clear hb5) | (go_at_call 21; refine (DE.out _ _ _ HR6.out).mono ?_; rintro e w7 ⟨hb7, v, rfl, hown⟩; obtain ⟨X7, d7, rfl, -⟩ := Sl.of_own hown; have HX7 := Lib.hid (Nums.own hown); clear hown; have HB7 : Hid (Below w.heap.size w w7) := Lib.hid (HB6.out.trans (hb7.mono HB6.out.size)); have HS7 := Lib.hid hb7; have ol7 := HB7.out.size; clear hb7) | (go_at_call 11; refine (RC.out _ HB7.out).mono ?_; rintro e w8 ⟨hb8, rfl⟩; have HB8 : Hid (Below w.heap.size w w8) := Lib.hid (HB7.out.trans (hb8.mono HB7.out.size)); have HS8 := Lib.hid hb8; have ol8 := HB8.out.size; clear hb8) | (go_at_call 22; with_reducible refine (refIsDay_b HDY.out _).mono ?_; rintro e w' ⟨rfl, rfl⟩) | (go_at_call 17; refine (PL.out _ HB8.out).mono ?_; rintro e w9 ⟨hb9, v, rfl, hown⟩; obtain ⟨X9, d9, rfl, hr⟩ := tx_own hown rfl; have HX9 := Lib.hid hr; clear hown hr; have HB9 : Hid (Below w.heap.size w w9) := Lib.hid (HB8.out.trans (hb9.mono HB8.out.size)); have HS9 := Lib.hid hb9; have ol9 := HB9.out.size; clear hb9) | (go_at_call 23; refine (HT.out _ _ _ HX9.out).mono ?_; rintro e w' ⟨rfl, rfl⟩) | (go_at_call 24; refine (RR.out _ HB9.out).mono ?_; rintro e w10 ⟨hb10, v, rfl, hown⟩; obtain ⟨X10, d10, rfl, -⟩ := Sl.of_own hown; have HX10 := Lib.hid (Nums.own hown); clear hown; have HB10 : Hid (Below w.heap.size w w10) := Lib.hid (HB9.out.trans (hb10.mono HB9.out.size)); have HS10 := Lib.hid hb10; have ol10 := HB10.out.size; clear hb10) | (go_at_call 25; refine (ints_any _ _ _ _ _ _ _ _ _ (HX7.out.below (bel5 HS8.out HS9.out HS10.out HS11.out HS12.out) (Nat.le_refl _) (bel5 HS8.out HS9.out HS10.out HS11.out HS12.out).size) HX12.out).mono ?_; rw [decide_eq_true rfl]; rintro e w13 ⟨hb13, rfl⟩; have HB13 : Hid (Below w.heap.size w w13) := Lib.hid (HB12.out.trans (hb13.mono HB12.out.size)); have HS13 := Lib.hid hb13; have ol13 := HB13.out.size; clear hb13) | (go_at_call 25; refine (ints_any _ _ _ _ _ _ _ _ _ (HX3.out.below (bel7 HS4.out HS5.out HS6.out HS7.out HS8.out HS9.out HS10.out) (Nat.le_refl _) (bel7 HS4.out HS5.out HS6.out HS7.out HS8.out HS9.out HS10.out).size) HX10.out).mono ?_; rw [decide_eq_true rfl]; rintro e w11 ⟨hb11, rfl⟩; have HB11 : Hid (Below w.heap.size w w11) := Lib.hid (HB10.out.trans (hb11.mono HB10.out.size)); have HS11 := Lib.hid hb11; have ol11 := HB11.out.size; clear hb11) | (go_at_call 26; refine (tagR_any _ _ _ _ _ _ (HX10.out.below HS11.out (Nat.le_refl _) HS11.out.size)).mono ?_; rw [HTG.out]; rintro e w' ⟨rfl, rfl⟩) | (go_at_call 27; refine (RD.out _ HB11.out).mono ?_; rintro e w12 ⟨hb12, v, rfl, hown⟩; obtain ⟨X12, d12, rfl, -⟩ := Sl.of_own hown; have HX12 := Lib.hid (Nums.own hown); clear hown; have HB12 : Hid (Below w.heap.size w w12) := Lib.hid (HB11.out.trans (hb12.mono HB11.out.size)); have HS12 := Lib.hid hb12; have ol12 := HB12.out.size; clear hb12) | (go_at_call 13; refine (CP.out _ HB5.out).mono ?_; rintro e w6 ⟨hb6, v, rfl, hown⟩; obtain ⟨A6, c6, rfl, hr⟩ := Rws.of_own hown HLEN.out; have HR6 := Lib.hid hr; clear hown hr; have HB6 : Hid (Below w.heap.size w w6) := Lib.hid (HB5.out.trans (hb6.mono HB5.out.size)); have HS6 := Lib.hid hb6; have ol6 := HB6.out.size; clear hb6) | (go_at_call 13; refine (CP.out _ HB3.out).mono ?_; rintro e w4 ⟨hb4, v, rfl, hown⟩; obtain ⟨A4, c4, rfl, hr⟩ := Rws.of_own hown HLEN.out; have HR4 := Lib.hid hr; clear hown hr; have HB4 : Hid (Below w.heap.size w w4) := Lib.hid (HB3.out.trans (hb4.mono HB3.out.size)); have HS4 := Lib.hid hb4; have ol4 := HB4.out.size; clear hb4) | (go_at_call 13; refine (CP.out _ HB1.out).mono ?_; rintro e w2 ⟨hb2, v, rfl, hown⟩; obtain ⟨A2, c2, rfl, hr⟩ := Rws.of_own hown HLEN.out; have HR2 := Lib.hid hr; clear hown hr; have HB2 : Hid (Below w.heap.size w w2) := Lib.hid (HB1.out.trans (hb2.mono HB1.out.size)); have HS2 := Lib.hid hb2; have ol2 := HB2.out.size; clear hb2))
  go_ret
  exact ⟨HB13.out, rfl⟩

/-- The law, for every record, platform and day. -/
theorem lawTags_any (A : Option Addr) (n c : Nat) (l : List Ev) (p : ByteArray) (day : Int) (w : World) (h : Rws Ev.cs 6 w w.heap.size A n c l) (ho : ∀ x ∈ l, evOk x) :
    Calls Try.prog 4 #[.slice A n c, .string p, .int .i64 day] w fun e w' => Below w.heap.size w w' ∧ e = .returned (.bool true) := by
  by_cases hl : shB l = true
  · by_cases hp : p.size ≤ 30
    · by_cases hE : qErr l p day = 0
      · exact lawTags_ok A n c l p day w h hl hp ho hE
      · exact lawTags_bad A n c l p day w h hl hp ho _ rfl hE
    · exact lawTags_long A n c l p day w h (.inr (by omega))
  · exact lawTags_long A n c l p day w h (.inl (by simpa using hl))

end Go.Proofs.Ytgjjjnofdjhikaa
