/- The law RecordDue, out of its callees' contracts. -/
import Derived.Test.YtgjjjnofdjhikaaDueG9
import Derived.Test.YtgjjjnofdjhikaaRefAll9
import Derived.Test.YtgjjjnofdjhikaaCopies9
import Derived.Test.YtgjjjnofdjhikaaCorrect9
import Derived.Test.YtgjjjnofdjhikaaAwake9
namespace Go.Proofs.Ytgjjjnofdjhikaa
open Go Go.RowKit Go.WideShapes

theorem bel2 {a b c : World} (h1 : Below a.heap.size a b) (h2 : Below b.heap.size b c) : Below a.heap.size a c := h1.trans (h2.mono h1.size)
theorem bel4 {a b c d e : World} (h1 : Below a.heap.size a b) (h2 : Below b.heap.size b c) (h3 : Below c.heap.size c d) (h4 : Below d.heap.size d e) : Below a.heap.size a e := bel2 (bel2 h1 h2) (bel2 h3 h4)
set_option maxRecDepth 100000 in
set_option maxHeartbeats 4000000 in
theorem lawDue_long (A : Option Addr) (n c : Nat) (l : List Ev) (day : Int) (w : World) (h : Rws Ev.cs 6 w w.heap.size A n c l) (hl : shB l = false) :
    Calls Try.prog 6 #[.slice A n c, .int .i64 day] w fun e w' => Below w.heap.size w w' ∧ e = .returned (.bool true) := by
  have SH : Hid (∀ W, Below w.heap.size w W → Calls Try.prog 10 #[.slice A n c] W fun e w' => W = w' ∧ e = .returned (.bool false)) := Lib.hid fun W hW => by
    have := short_any A n c _ l W (h.below hW (Nat.le_refl _) hW.size)
    rwa [hl] at this
  clear h hl
  go_enter Try.func6, Try.ntmps6
  go_wp2_with (first | (go_at_call 9; refine (awake_true _).mono ?_; rintro e w1 ⟨hb1, rfl⟩; have HB1 : Hid (Below w.heap.size w w1) := Lib.hid hb1; clear hb1) | (go_at_call 10; refine (SH.out _ HB1.out).mono ?_; rintro e w' ⟨rfl, rfl⟩))
  go_ret
  exact ⟨HB1.out, rfl⟩
set_option maxRecDepth 100000 in
set_option maxHeartbeats 8000000 in
theorem lawDue_bad (A : Option Addr) (n c : Nat) (l : List Ev) (day : Int) (w : World) (h : Rws Ev.cs 6 w w.heap.size A n c l) (hl : shB l = true) (ho : ∀ x ∈ l, evOk x) (E : Int) (hE : dyErr l day = E) (h0 : E ≠ 0) :
    Calls Try.prog 6 #[.slice A n c, .int .i64 day] w fun e w' => Below w.heap.size w w' ∧ e = .returned (.bool true) := by
  have hcap := h.cap
  have hmax := h.max
  have HLEN := Lib.hid h.len
  have H : Hid (∀ W, Below w.heap.size w W → Rws Ev.cs 6 W W.heap.size A n c l) := fun W hW => h.below hW (Nat.le_refl _) hW.size
  have hn405 := (shB_facts hl).1
  rw [HLEN.out] at hn405
  have hs : n ≤ 400 → ∀ x ∈ l, x.p.size ≤ 30 := fun hq => (shB_facts hl).2 (by rw [HLEN.out]; exact hq)
  have SH : Hid (∀ W, Below w.heap.size w W → Calls Try.prog 10 #[.slice A n c] W fun e w' => W = w' ∧ e = .returned (.bool true)) := Lib.hid fun W hW => by
    have := short_any A n c _ l W (H.out W hW)
    rwa [hl] at this
  have CP : Hid (∀ W, Below w.heap.size w W → Calls Try.prog 13 #[.slice A n c] W fun e w' => Below W.heap.size W w' ∧ ∃ v, e = .returned v ∧ w'.ownsRow W.heap.size 24 6 v n (l.flatMap Ev.cs)) := Lib.hid fun W hW =>
    copied_any A n c l W (H.out W hW) (by omega)
  obtain ⟨T, hT⟩ : ∃ T, recErr l = T := ⟨_, rfl⟩
  have RC : Hid (∀ W, Below w.heap.size w W → Calls Try.prog 11 #[.slice A n c] W fun e w' => Below W.heap.size W w' ∧ e = .returned (.int .i64 T)) := Lib.hid fun W hW => by
    have := refCheckRec_all A n c l W (H.out W hW) hs
    rwa [hT] at this
  have DU : Hid (∀ A c W, Rws Ev.cs 6 W W.heap.size A n c l → Calls Try.prog 31 #[.slice A n c, .int .i64 day] W fun e w' => Below W.heap.size W w' ∧ e = .returned (.tuple #[.slice none 0 0, .int .i64 E])) := Lib.hid fun A c W hW => due_bad A n c l day W hW hs ho E hE h0
  have RE : Hid (∀ A c W, Rws Ev.cs 6 W W.heap.size A n c l → Calls Try.prog 32 #[.slice A n c, .int .i64 day] W fun e w' => Below W.heap.size W w' ∧ e = .returned (.tuple #[.slice none 0 0, .int .i64 E])) := Lib.hid fun A c W hW => rel_bad A n c l day W hW hs ho E hE h0
  unfold dyErr at hE
  rw [hT] at hE
  clear h ho hs hT hl
  by_cases hT0 : T = 0
  · rw [if_pos hT0] at hE
    obtain ⟨v, hv⟩ : ∃ v, dayB day = v := ⟨_, rfl⟩
    have HDY := Lib.hid hv
    rw [hv] at hE
    cases v
    · obtain rfl : E = 2 := by simpa using hE.symm
      subst hT0
      clear hE h0 hv
      go_enter Try.func6, Try.ntmps6
      go_wp2_with (first | (go_at_call 9; refine (awake_true _).mono ?_; rintro e w1 ⟨hb1, rfl⟩; have HB1 : Hid (Below w.heap.size w w1) := Lib.hid hb1; clear hb1) | (go_at_call 10; refine (SH.out _ HB1.out).mono ?_; rintro e w' ⟨rfl, rfl⟩) | (go_at_call 31; refine (DU.out _ _ _ HR2.out).mono ?_; rintro e w3 ⟨hb3, rfl⟩; have HB3 : Hid (Below w.heap.size w w3) := Lib.hid (HB2.out.trans (hb3.mono HB2.out.size)); have HS3 := Lib.hid hb3; have ol3 := HB3.out.size; clear hb3) | (go_at_call 32; refine (RE.out _ _ _ HR4.out).mono ?_; rintro e w5 ⟨hb5, rfl⟩; have HB5 : Hid (Below w.heap.size w w5) := Lib.hid (HB4.out.trans (hb5.mono HB4.out.size)); have HS5 := Lib.hid hb5; have ol5 := HB5.out.size; clear hb5) | (go_at_call 11; refine (RC.out _ HB5.out).mono ?_; rintro e w6 ⟨hb6, rfl⟩; have HB6 : Hid (Below w.heap.size w w6) := Lib.hid (HB5.out.trans (hb6.mono HB5.out.size)); have HS6 := Lib.hid hb6; have ol6 := HB6.out.size; clear hb6) | (go_at_call 22; with_reducible refine (refIsDay_b HDY.out _).mono ?_; rintro e w' ⟨rfl, rfl⟩) | (go_at_call 13; refine (CP.out _ HB3.out).mono ?_; rintro e w4 ⟨hb4, v, rfl, hown⟩; obtain ⟨A4, c4, rfl, hr⟩ := Rws.of_own hown HLEN.out; have HR4 := Lib.hid hr; clear hown hr; have HB4 : Hid (Below w.heap.size w w4) := Lib.hid (HB3.out.trans (hb4.mono HB3.out.size)); have HS4 := Lib.hid hb4; have ol4 := HB4.out.size; clear hb4) | (go_at_call 13; refine (CP.out _ HB1.out).mono ?_; rintro e w2 ⟨hb2, v, rfl, hown⟩; obtain ⟨A2, c2, rfl, hr⟩ := Rws.of_own hown HLEN.out; have HR2 := Lib.hid hr; clear hown hr; have HB2 : Hid (Below w.heap.size w w2) := Lib.hid (HB1.out.trans (hb2.mono HB1.out.size)); have HS2 := Lib.hid hb2; have ol2 := HB2.out.size; clear hb2))
      go_ret
      exact ⟨HB6.out, rfl⟩
    · exact absurd hE.symm h0
  · obtain rfl : T = E := by rwa [if_neg hT0] at hE
    have h0b : (T != 0) = true := by simpa using h0
    have h0c : (T == 0) = false := by simpa using h0
    clear hE h0 hT0
    go_enter Try.func6, Try.ntmps6
    go_wp2_with (first | (go_at_call 9; refine (awake_true _).mono ?_; rintro e w1 ⟨hb1, rfl⟩; have HB1 : Hid (Below w.heap.size w w1) := Lib.hid hb1; clear hb1) | (go_at_call 10; refine (SH.out _ HB1.out).mono ?_; rintro e w' ⟨rfl, rfl⟩) | (go_at_call 31; refine (DU.out _ _ _ HR2.out).mono ?_; rintro e w3 ⟨hb3, rfl⟩; have HB3 : Hid (Below w.heap.size w w3) := Lib.hid (HB2.out.trans (hb3.mono HB2.out.size)); have HS3 := Lib.hid hb3; have ol3 := HB3.out.size; clear hb3) | (go_at_call 32; refine (RE.out _ _ _ HR4.out).mono ?_; rintro e w5 ⟨hb5, rfl⟩; have HB5 : Hid (Below w.heap.size w w5) := Lib.hid (HB4.out.trans (hb5.mono HB4.out.size)); have HS5 := Lib.hid hb5; have ol5 := HB5.out.size; clear hb5) | (go_at_call 11; refine (RC.out _ HB5.out).mono ?_; rintro e w6 ⟨hb6, rfl⟩; have HB6 : Hid (Below w.heap.size w w6) := Lib.hid (HB5.out.trans (hb6.mono HB5.out.size)); have HS6 := Lib.hid hb6; have ol6 := HB6.out.size; clear hb6) | (go_at_call 13; refine (CP.out _ HB3.out).mono ?_; rintro e w4 ⟨hb4, v, rfl, hown⟩; obtain ⟨A4, c4, rfl, hr⟩ := Rws.of_own hown HLEN.out; have HR4 := Lib.hid hr; clear hown hr; have HB4 : Hid (Below w.heap.size w w4) := Lib.hid (HB3.out.trans (hb4.mono HB3.out.size)); have HS4 := Lib.hid hb4; have ol4 := HB4.out.size; clear hb4) | (go_at_call 13; refine (CP.out _ HB1.out).mono ?_; rintro e w2 ⟨hb2, v, rfl, hown⟩; obtain ⟨A2, c2, rfl, hr⟩ := Rws.of_own hown HLEN.out; have HR2 := Lib.hid hr; clear hown hr; have HB2 : Hid (Below w.heap.size w w2) := Lib.hid (HB1.out.trans (hb2.mono HB1.out.size)); have HS2 := Lib.hid hb2; have ol2 := HB2.out.size; clear hb2))
    go_ret
    exact ⟨HB6.out, rfl⟩
set_option maxRecDepth 100000 in
set_option maxHeartbeats 8000000 in
theorem lawDue_ok (A : Option Addr) (n c : Nat) (l : List Ev) (day : Int) (w : World) (h : Rws Ev.cs 6 w w.heap.size A n c l) (hl : shB l = true) (ho : ∀ x ∈ l, evOk x) (hE : recErr l = 0) (hdy : dayB day = true) :
    Calls Try.prog 6 #[.slice A n c, .int .i64 day] w fun e w' => Below w.heap.size w w' ∧ e = .returned (.bool true) := by
  have hcap := h.cap
  have hmax := h.max
  have HLEN := Lib.hid h.len
  have H : Hid (∀ W, Below w.heap.size w W → Rws Ev.cs 6 W W.heap.size A n c l) := fun W hW => h.below hW (Nat.le_refl _) hW.size
  have hn405 := (shB_facts hl).1
  rw [HLEN.out] at hn405
  have hs : n ≤ 400 → ∀ x ∈ l, x.p.size ≤ 30 := fun hq => (shB_facts hl).2 (by rw [HLEN.out]; exact hq)
  have SH : Hid (∀ W, Below w.heap.size w W → Calls Try.prog 10 #[.slice A n c] W fun e w' => W = w' ∧ e = .returned (.bool true)) := Lib.hid fun W hW => by
    have := short_any A n c _ l W (H.out W hW)
    rwa [hl] at this
  have CP : Hid (∀ W, Below w.heap.size w W → Calls Try.prog 13 #[.slice A n c] W fun e w' => Below W.heap.size W w' ∧ ∃ v, e = .returned v ∧ w'.ownsRow W.heap.size 24 6 v n (l.flatMap Ev.cs)) := Lib.hid fun W hW =>
    copied_any A n c l W (H.out W hW) (by omega)
  have hn4 := recErr_small hE
  rw [HLEN.out] at hn4
  have hs2 := hs hn4
  have RC : Hid (∀ W, Below w.heap.size w W → Calls Try.prog 11 #[.slice A n c] W fun e w' => Below W.heap.size W w' ∧ e = .returned (.int .i64 0)) := Lib.hid fun W hW => by
    have := refCheckRec_all A n c l W (H.out W hW) hs
    rwa [hE] at this
  have HDY := Lib.hid hdy
  obtain ⟨hd0, hd1⟩ := dayB_iff.1 hdy
  have hdd := rec_days hE
  have DU : Hid (∀ A c W, Rws Ev.cs 6 W W.heap.size A n c l → Calls Try.prog 31 #[.slice A n c, .int .i64 day] W fun e w' => Below W.heap.size W w' ∧ ∃ v, e = .returned (.tuple #[v, .int .i64 0]) ∧ w'.ownsRow W.heap.size 9 1 v (dueL l day).length (Ss (dueL l day))) := Lib.hid fun A c W hW => due_ok A n c l day W hW hs2 ho hE hdy
  have RE : Hid (∀ A c W, Rws Ev.cs 6 W W.heap.size A n c l → Calls Try.prog 32 #[.slice A n c, .int .i64 day] W fun e w' => Below W.heap.size W w' ∧ ∃ v, e = .returned (.tuple #[v, .int .i64 0]) ∧ w'.ownsRow W.heap.size 9 1 v (relL l day).length (Ss (relL l day))) := Lib.hid fun A c W hW => rel_ok A n c l day W hW hs2 ho hE hdy
  have RDU : Hid (∀ W, Below w.heap.size w W → Calls Try.prog 33 #[.slice A n c, .int .i64 day] W fun e w' => Below W.heap.size W w' ∧ ∃ v, e = .returned v ∧ w'.ownsRow W.heap.size 9 1 v (dueL l day).length (Ss (dueL l day))) := Lib.hid fun W hW => refDue_any A n c l day W (H.out W hW) hn4 hdd hd0 (by omega)
  have RRE : Hid (∀ W, Below w.heap.size w W → Calls Try.prog 34 #[.slice A n c, .int .i64 day] W fun e w' => Below W.heap.size W w' ∧ ∃ v, e = .returned v ∧ w'.ownsRow W.heap.size 9 1 v (relL l day).length (Ss (relL l day))) := Lib.hid fun W hW => refReleased_any A n c l day W (H.out W hW) hn4 hdd hd0 (by omega)
  generalize dueL l day = LA at DU RDU
  generalize relL l day = LB at RE RRE
  clear h ho hs hl hE hdy hdd hs2
  go_enter Try.func6, Try.ntmps6
  go_wp2_with (first | (go_at_call 9; refine (awake_true _).mono ?_; rintro e w1 ⟨hb1, rfl⟩; have HB1 : Hid (Below w.heap.size w w1) := Lib.hid hb1; clear hb1) | (go_at_call 10; refine (SH.out _ HB1.out).mono ?_; rintro e w' ⟨rfl, rfl⟩) | (go_at_call 31; refine (DU.out _ _ _ HR2.out).mono ?_; rintro e w3 ⟨hb3, v, rfl, hown⟩; obtain ⟨X3, d3, rfl, hr⟩ := tx_own hown rfl; have HX3 := Lib.hid hr; clear hown hr; have HB3 : Hid (Below w.heap.size w w3) := Lib.hid (HB2.out.trans (hb3.mono HB2.out.size)); have HS3 := Lib.hid hb3; have ol3 := HB3.out.size; clear hb3) | (go_at_call 32; refine (RE.out _ _ _ HR4.out).mono ?_; rintro e w5 ⟨hb5, v, rfl, hown⟩; obtain ⟨X5, d5, rfl, hr⟩ := tx_own hown rfl; have HX5 := Lib.hid hr; clear hown hr; have HB5 : Hid (Below w.heap.size w w5) := Lib.hid (HB4.out.trans (hb5.mono HB4.out.size)); have HS5 := Lib.hid hb5; have ol5 := HB5.out.size; clear hb5) | (go_at_call 11; refine (RC.out _ HB5.out).mono ?_; rintro e w6 ⟨hb6, rfl⟩; have HB6 : Hid (Below w.heap.size w w6) := Lib.hid (HB5.out.trans (hb6.mono HB5.out.size)); have HS6 := Lib.hid hb6; have ol6 := HB6.out.size; clear hb6) | (go_at_call 22; with_reducible refine (refIsDay_b HDY.out _).mono ?_; rintro e w' ⟨rfl, rfl⟩) | (go_at_call 33; refine (RDU.out _ HB6.out).mono ?_; rintro e w7 ⟨hb7, v, rfl, hown⟩; obtain ⟨X7, d7, rfl, hr⟩ := tx_own hown rfl; have HX7 := Lib.hid hr; clear hown hr; have HB7 : Hid (Below w.heap.size w w7) := Lib.hid (HB6.out.trans (hb7.mono HB6.out.size)); have HS7 := Lib.hid hb7; have ol7 := HB7.out.size; clear hb7) | (go_at_call 34; refine (RRE.out _ HB8.out).mono ?_; rintro e w9 ⟨hb9, v, rfl, hown⟩; obtain ⟨X9, d9, rfl, hr⟩ := tx_own hown rfl; have HX9 := Lib.hid hr; clear hown hr; have HB9 : Hid (Below w.heap.size w w9) := Lib.hid (HB8.out.trans (hb9.mono HB8.out.size)); have HS9 := Lib.hid hb9; have ol9 := HB9.out.size; clear hb9) | (go_at_call 16; refine (texts_eq _ _ _ _ _ _ _ (HX5.out.below (bel4 HS6.out HS7.out HS8.out HS9.out) (Nat.le_refl _) (bel4 HS6.out HS7.out HS8.out HS9.out).size) HX9.out).mono ?_; rintro e w10 ⟨hb10, rfl⟩; have HB10 : Hid (Below w.heap.size w w10) := Lib.hid (HB9.out.trans (hb10.mono HB9.out.size)); have HS10 := Lib.hid hb10; have ol10 := HB10.out.size; clear hb10) | (go_at_call 16; refine (texts_eq _ _ _ _ _ _ _ (HX3.out.below (bel4 HS4.out HS5.out HS6.out HS7.out) (Nat.le_refl _) (bel4 HS4.out HS5.out HS6.out HS7.out).size) HX7.out).mono ?_; rintro e w8 ⟨hb8, rfl⟩; have HB8 : Hid (Below w.heap.size w w8) := Lib.hid (HB7.out.trans (hb8.mono HB7.out.size)); have HS8 := Lib.hid hb8; have ol8 := HB8.out.size; clear hb8) | (go_at_call 13; refine (CP.out _ HB3.out).mono ?_; rintro e w4 ⟨hb4, v, rfl, hown⟩; obtain ⟨A4, c4, rfl, hr⟩ := Rws.of_own hown HLEN.out; have HR4 := Lib.hid hr; clear hown hr; have HB4 : Hid (Below w.heap.size w w4) := Lib.hid (HB3.out.trans (hb4.mono HB3.out.size)); have HS4 := Lib.hid hb4; have ol4 := HB4.out.size; clear hb4) | (go_at_call 13; refine (CP.out _ HB1.out).mono ?_; rintro e w2 ⟨hb2, v, rfl, hown⟩; obtain ⟨A2, c2, rfl, hr⟩ := Rws.of_own hown HLEN.out; have HR2 := Lib.hid hr; clear hown hr; have HB2 : Hid (Below w.heap.size w w2) := Lib.hid (HB1.out.trans (hb2.mono HB1.out.size)); have HS2 := Lib.hid hb2; have ol2 := HB2.out.size; clear hb2))
  go_ret
  exact ⟨HB10.out, rfl⟩

/-- The law, for every record and day. -/
theorem lawDue_any (A : Option Addr) (n c : Nat) (l : List Ev) (day : Int) (w : World) (h : Rws Ev.cs 6 w w.heap.size A n c l) (ho : ∀ x ∈ l, evOk x) :
    Calls Try.prog 6 #[.slice A n c, .int .i64 day] w fun e w' => Below w.heap.size w w' ∧ e = .returned (.bool true) := by
  by_cases hl : shB l = true
  · by_cases hE : dyErr l day = 0
    · have h1 : recErr l = 0 := by
        unfold dyErr at hE
        split at hE
        · assumption
        · contradiction
      have h2 : dayB day = true := by
        unfold dyErr at hE
        rw [if_pos h1] at hE
        by_cases h2 : dayB day = true
        · exact h2
        · rw [if_neg h2] at hE
          cases hE
      exact lawDue_ok A n c l day w h hl ho h1 h2
    · exact lawDue_bad A n c l day w h hl ho _ rfl hE
  · exact lawDue_long A n c l day w h (by simpa using hl)

end Go.Proofs.Ytgjjjnofdjhikaa
