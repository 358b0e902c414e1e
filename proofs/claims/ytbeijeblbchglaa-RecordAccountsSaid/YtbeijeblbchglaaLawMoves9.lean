/- The law RecordMoves, out of its callees' contracts: where it ends early. -/
import Derived.Test.YtbeijeblbchglaaLots9
import Derived.Test.YtbeijeblbchglaaSameLots9
import Derived.Test.YtbeijeblbchglaaHire9
import Derived.Test.YtbeijeblbchglaaLotSum9
import Derived.Test.YtbeijeblbchglaaRefMoves9
import Derived.Test.YtbeijeblbchglaaRefTerms9
import Derived.Test.YtbeijeblbchglaaAwake9
namespace Go.Proofs.Ytbeijeblbchglaa
open Go.RowKit Go.WideShapes Go.Deep

set_option maxRecDepth 100000 in
set_option maxHeartbeats 4000000 in
theorem lawMoves_not (T A : Option Addr) (tn tc n c : Nat) (t : List Q4) (l : List Mv) (w : World) (ht : Rws Q4.cs 4 w w.heap.size T tn tc t) (h : Rws Mv.cs 4 w w.heap.size A n c l) (hh : hB t l = false) :
    Calls Try.prog 5 #[.slice T tn tc, .slice A n c] w fun e w' => Below w.heap.size w w' ∧ e = .returned (.bool true) := by
  have HI : Hid (∀ W, Below w.heap.size w W → Calls Try.prog 19 #[.slice T tn tc, .slice A n c] W fun e w' => W = w' ∧ e = .returned (.bool false)) := Lib.hid fun W hW => by
    have := hire_any T A tn tc n c _ t l W (ht.below hW (Nat.le_refl _) hW.size) (h.below hW (Nat.le_refl _) hW.size)
    rwa [hh] at this
  clear ht h hh
  go_enter Try.func5, Try.ntmps5
  go_wp2_with (first | (go_at_call 11; refine (awake_true _).mono ?_; rintro e w1 ⟨hb1, rfl⟩; have HB1 := Lib.hid hb1; clear hb1) | (go_at_call 19; refine (HI.out _ HB1.out).mono ?_; rintro e w' ⟨rfl, rfl⟩))
  go_ret
  exact ⟨HB1.out, rfl⟩
set_option maxRecDepth 100000 in
set_option maxHeartbeats 4000000 in
theorem lawMoves_bad (T A : Option Addr) (tn tc n c : Nat) (t : List Q4) (l : List Mv) (w : World) (ht : Rws Q4.cs 4 w w.heap.size T tn tc t) (h : Rws Mv.cs 4 w w.heap.size A n c l) (hh : hB t l = true) (hE : checkErr t l ≠ 0) :
    Calls Try.prog 5 #[.slice T tn tc, .slice A n c] w fun e w' => Below w.heap.size w w' ∧ e = .returned (.bool true) := by
  have HTL := Lib.hid ht.len
  have HLL := Lib.hid h.len
  obtain ⟨hlen, hts, hs⟩ := hB_facts hh
  rw [HTL.out, HLL.out] at hlen
  have hcap := h.cap
  have hmax := h.max
  have hcapt := ht.cap
  have hmaxt := ht.max
  have HT0 : Hid (∀ W, Below w.heap.size w W → Rws Q4.cs 4 W W.heap.size T tn tc t) := fun W hW => ht.below hW (Nat.le_refl _) hW.size
  have H0 : Hid (∀ W, Below w.heap.size w W → Rws Mv.cs 4 W W.heap.size A n c l) := fun W hW => h.below hW (Nat.le_refl _) hW.size
  have HI : Hid (∀ W, Below w.heap.size w W → Calls Try.prog 19 #[.slice T tn tc, .slice A n c] W fun e w' => W = w' ∧ e = .returned (.bool true)) := Lib.hid fun W hW => by
    have := hire_any T A tn tc n c _ t l W (HT0.out W hW) (H0.out W hW)
    rwa [hh] at this
  have TC : Hid (∀ W, Below w.heap.size w W → Calls Try.prog 22 #[.slice T tn tc] W fun e w' => Below W.heap.size W w' ∧ ∃ v, e = .returned v ∧ w'.ownsRow W.heap.size 56 4 v tn (t.flatMap Q4.cs)) := Lib.hid fun W hW =>
    terms_any T tn tc t W (HT0.out W hW) (by omega)
  have MC : Hid (∀ W, Below w.heap.size w W → Calls Try.prog 25 #[.slice A n c] W fun e w' => Below W.heap.size W w' ∧ ∃ v, e = .returned v ∧ w'.ownsRow W.heap.size 90 4 v n (l.flatMap Mv.cs)) := Lib.hid fun W hW =>
    moves_any A n c l W (H0.out W hW) (by omega)
  obtain ⟨D, hD⟩ : ∃ D, checkErr t l = D := ⟨_, rfl⟩
  obtain ⟨F, hF⟩ : ∃ F, termErr t = F := ⟨_, rfl⟩
  obtain ⟨G, hG⟩ : ∃ G, moveErr t l = G := ⟨_, rfl⟩
  have RCT : Hid (∀ W, Below w.heap.size w W → Calls Try.prog 20 #[.slice T tn tc] W fun e w' => Below W.heap.size W w' ∧ e = .returned (.int .i64 F)) := Lib.hid fun W hW => by
    have := refCheckTerms_any T tn tc t W (HT0.out W hW) hts
    rwa [hF] at this
  have CT : Hid (∀ T tc W, Rws Q4.cs 4 W W.heap.size T tn tc t → Calls Try.prog 21 #[.slice T tn tc] W fun e w' => Below W.heap.size W w' ∧ e = .returned (.int .i64 F)) := Lib.hid fun T tc W hW => by
    have := checkTerms_any T tn tc t W hW hts
    rwa [hF] at this
  have CMV : Hid (∀ T tc A c W, Rws Q4.cs 4 W W.heap.size T tn tc t → Rws Mv.cs 4 W W.heap.size A n c l → Calls Try.prog 26 #[.slice T tn tc, .slice A n c] W fun e w' => Below W.heap.size W w' ∧ e = .returned (.int .i64 D)) := Lib.hid fun T tc A c W h1 h2 => by
    have := checkMoves_any A T n c tn tc t l W h1 h2 hts hs
    rwa [hD] at this
  have LB : Hid (∀ T tc A c W, Rws Q4.cs 4 W W.heap.size T tn tc t → Rws Mv.cs 4 W W.heap.size A n c l → Calls Try.prog 24 #[.slice T tn tc, .slice A n c] W fun e w' => Below W.heap.size W w' ∧ e = .returned (.tuple #[.slice none 0 0, .int .i64 D])) := Lib.hid fun T tc A c W h1 h2 => by
    have := lots_bad T A tn tc n c t l W h1 h2 hts hs hE
    rwa [hD] at this
  have RCM : Hid (∀ W, Below w.heap.size w W → Calls Try.prog 23 #[.slice T tn tc, .slice A n c] W fun e w' => Below W.heap.size W w' ∧ e = .returned (.int .i64 G)) := Lib.hid fun W hW => by
    have := refCheckMoves_any A T n c tn tc t l W (HT0.out W hW) (H0.out W hW)
    rwa [hG] at this
  have hD1 : (D != 0) = true := by rw [← hD]; simpa using hE
  have hD0 : (D == 0) = false := by rw [← hD]; simpa using hE
  by_cases h0 : F = 0
  · have e : G = D := by rw [← hG, ← hD, checkErr, if_pos (hF.trans h0)]
    subst e
    have hF0 : (F == 0) = true := by simpa using h0
    clear ht h hh hE hD hF hG h0 hts hs
    (
        go_enter Try.func5, Try.ntmps5
        go_upto_region 6 with (first | (go_at_call 11; refine (awake_true _).mono ?_; rintro e w1 ⟨hb1, rfl⟩; have HB1 := Lib.hid hb1; clear hb1) | (go_at_call 19; refine (HI.out _ HB1.out).mono ?_; rintro e w' ⟨rfl, rfl⟩) | (go_at_call 20; refine (RCT.out _ HB1.out).mono ?_; rintro e w2 ⟨hb2, rfl⟩; have HB2 : Hid (Below w.heap.size w w2) := Lib.hid (HB1.out.trans (hb2.mono HB1.out.size)); clear hb2))
        go_upto_region 10 with (first | (go_at_call 22; refine (TC.out _ HB2.out).mono ?_; rintro e w3 ⟨hb3, v, rfl, hown⟩; obtain ⟨T3, d3, rfl, hr⟩ := Rws.of_own hown HTL.out; have HT3 := Lib.hid hr; have HB3 : Hid (Below w.heap.size w w3) := Lib.hid (HB2.out.trans (hb3.mono HB2.out.size)); clear hown hr hb3) | (go_at_call 21; refine (CT.out _ _ _ HT3.out).mono ?_; rintro e w4 ⟨hb4, rfl⟩; have HB4 : Hid (Below w.heap.size w w4) := Lib.hid (HB3.out.trans (hb4.mono HB3.out.size)); clear hb4) | (go_at_call 23; refine (RCM.out _ HB4.out).mono ?_; rintro e w5 ⟨hb5, rfl⟩; have HB5 : Hid (Below w.heap.size w w5) := Lib.hid (HB4.out.trans (hb5.mono HB4.out.size)); clear hb5))
        go_upto_region 11 with (first | (go_at_call 22; refine (TC.out _ HB5.out).mono ?_; rintro e w6 ⟨hb6, v, rfl, hown⟩; obtain ⟨T6, d6, rfl, hr⟩ := Rws.of_own hown HTL.out; have HT6 := Lib.hid hr; have HB6 : Hid (Below w.heap.size w w6) := Lib.hid (HB5.out.trans (hb6.mono HB5.out.size)); clear hown hr hb6) | (go_at_call 25; refine (MC.out _ HB6.out).mono ?_; rintro e w7 ⟨hb7, v, rfl, hown⟩; obtain ⟨A7, d7, rfl, hr⟩ := Rws.of_own hown HLL.out; have HM7 := Lib.hid hr; have HT7 := Lib.hid (HT6.out.below hb7 (Nat.le_refl _) hb7.size); have HB7 : Hid (Below w.heap.size w w7) := Lib.hid (HB6.out.trans (hb7.mono HB6.out.size)); clear hown hr hb7) | (go_at_call 24; refine (LB.out _ _ _ _ _ HT7.out HM7.out).mono ?_; rintro e w8 ⟨hb8, rfl⟩; have HB8 : Hid (Below w.heap.size w w8) := Lib.hid (HB7.out.trans (hb8.mono HB7.out.size)); clear hb8))
        go_wp2_with (first | (go_at_call 22; refine (TC.out _ HB8.out).mono ?_; rintro e w9 ⟨hb9, v, rfl, hown⟩; obtain ⟨T9, d9, rfl, hr⟩ := Rws.of_own hown HTL.out; have HT9 := Lib.hid hr; have HB9 : Hid (Below w.heap.size w w9) := Lib.hid (HB8.out.trans (hb9.mono HB8.out.size)); clear hown hr hb9) | (go_at_call 25; refine (MC.out _ HB9.out).mono ?_; rintro e w10 ⟨hb10, v, rfl, hown⟩; obtain ⟨A10, d10, rfl, hr⟩ := Rws.of_own hown HLL.out; have HM10 := Lib.hid hr; have HT10 := Lib.hid (HT9.out.below hb10 (Nat.le_refl _) hb10.size); have HB10 : Hid (Below w.heap.size w w10) := Lib.hid (HB9.out.trans (hb10.mono HB9.out.size)); clear hown hr hb10) | (go_at_call 26; refine (CMV.out _ _ _ _ _ HT10.out HM10.out).mono ?_; rintro e w11 ⟨hb11, rfl⟩; have HB11 : Hid (Below w.heap.size w w11) := Lib.hid (HB10.out.trans (hb11.mono HB10.out.size)); clear hb11))
        go_ret
        exact ⟨HB11.out, rfl⟩)
  · have e : F = D := by rw [← hF, ← hD, checkErr, if_neg (by rw [hF]; exact h0)]
    subst e
    clear ht h hh hE hD hF hG h0 hts hs RCM
    (
        go_enter Try.func5, Try.ntmps5
        go_upto_region 6 with (first | (go_at_call 11; refine (awake_true _).mono ?_; rintro e w1 ⟨hb1, rfl⟩; have HB1 := Lib.hid hb1; clear hb1) | (go_at_call 19; refine (HI.out _ HB1.out).mono ?_; rintro e w' ⟨rfl, rfl⟩) | (go_at_call 20; refine (RCT.out _ HB1.out).mono ?_; rintro e w2 ⟨hb2, rfl⟩; have HB2 : Hid (Below w.heap.size w w2) := Lib.hid (HB1.out.trans (hb2.mono HB1.out.size)); clear hb2))
        go_upto_region 10 with (first | (go_at_call 22; refine (TC.out _ HB2.out).mono ?_; rintro e w3 ⟨hb3, v, rfl, hown⟩; obtain ⟨T3, d3, rfl, hr⟩ := Rws.of_own hown HTL.out; have HT3 := Lib.hid hr; have HB3 : Hid (Below w.heap.size w w3) := Lib.hid (HB2.out.trans (hb3.mono HB2.out.size)); clear hown hr hb3) | (go_at_call 21; refine (CT.out _ _ _ HT3.out).mono ?_; rintro e w4 ⟨hb4, rfl⟩; have HB4 : Hid (Below w.heap.size w w4) := Lib.hid (HB3.out.trans (hb4.mono HB3.out.size)); clear hb4) | (go_at_call 23; refine (RCM.out _ HB4.out).mono ?_; rintro e w5 ⟨hb5, rfl⟩; have HB5 : Hid (Below w.heap.size w w5) := Lib.hid (HB4.out.trans (hb5.mono HB4.out.size)); clear hb5))
        go_upto_region 11 with (first | (go_at_call 22; refine (TC.out _ HB4.out).mono ?_; rintro e w6 ⟨hb6, v, rfl, hown⟩; obtain ⟨T6, d6, rfl, hr⟩ := Rws.of_own hown HTL.out; have HT6 := Lib.hid hr; have HB6 : Hid (Below w.heap.size w w6) := Lib.hid (HB4.out.trans (hb6.mono HB4.out.size)); clear hown hr hb6) | (go_at_call 25; refine (MC.out _ HB6.out).mono ?_; rintro e w7 ⟨hb7, v, rfl, hown⟩; obtain ⟨A7, d7, rfl, hr⟩ := Rws.of_own hown HLL.out; have HM7 := Lib.hid hr; have HT7 := Lib.hid (HT6.out.below hb7 (Nat.le_refl _) hb7.size); have HB7 : Hid (Below w.heap.size w w7) := Lib.hid (HB6.out.trans (hb7.mono HB6.out.size)); clear hown hr hb7) | (go_at_call 24; refine (LB.out _ _ _ _ _ HT7.out HM7.out).mono ?_; rintro e w8 ⟨hb8, rfl⟩; have HB8 : Hid (Below w.heap.size w w8) := Lib.hid (HB7.out.trans (hb8.mono HB7.out.size)); clear hb8))
        go_wp2_with (first | (go_at_call 22; refine (TC.out _ HB8.out).mono ?_; rintro e w9 ⟨hb9, v, rfl, hown⟩; obtain ⟨T9, d9, rfl, hr⟩ := Rws.of_own hown HTL.out; have HT9 := Lib.hid hr; have HB9 : Hid (Below w.heap.size w w9) := Lib.hid (HB8.out.trans (hb9.mono HB8.out.size)); clear hown hr hb9) | (go_at_call 25; refine (MC.out _ HB9.out).mono ?_; rintro e w10 ⟨hb10, v, rfl, hown⟩; obtain ⟨A10, d10, rfl, hr⟩ := Rws.of_own hown HLL.out; have HM10 := Lib.hid hr; have HT10 := Lib.hid (HT9.out.below hb10 (Nat.le_refl _) hb10.size); have HB10 : Hid (Below w.heap.size w w10) := Lib.hid (HB9.out.trans (hb10.mono HB9.out.size)); clear hown hr hb10) | (go_at_call 26; refine (CMV.out _ _ _ _ _ HT10.out HM10.out).mono ?_; rintro e w11 ⟨hb11, rfl⟩; have HB11 : Hid (Below w.heap.size w w11) := Lib.hid (HB10.out.trans (hb11.mono HB10.out.size)); clear hb11))
        go_ret
        exact ⟨HB11.out, rfl⟩)

end Go.Proofs.Ytbeijeblbchglaa
