/- The law RecordAccounts, out of its callees' contracts. -/
import Derived.Test.YtbeijeblbchglaaRefBal9
import Derived.Test.YtbeijeblbchglaaRefAcct9
import Derived.Test.YtbeijeblbchglaaLawMoves9
namespace Go.Proofs.Ytbeijeblbchglaa
open Go.RowKit Go.WideShapes Go.Deep

set_option maxRecDepth 100000 in
set_option maxHeartbeats 4000000 in
theorem lawAcct_not (T A : Option Addr) (tn tc n c : Nat) (t : List Q4) (l : List Mv) (day : Int) (w : World) (ht : Rws Q4.cs 4 w w.heap.size T tn tc t) (h : Rws Mv.cs 4 w w.heap.size A n c l) (hh : hB t l = false) :
    Calls Try.prog 7 #[.slice T tn tc, .slice A n c, .int .i64 day] w fun e w' => Below w.heap.size w w' ∧ e = .returned (.bool true) := by
  have HI : Hid (∀ W, Below w.heap.size w W → Calls Try.prog 19 #[.slice T tn tc, .slice A n c] W fun e w' => W = w' ∧ e = .returned (.bool false)) := Lib.hid fun W hW => by
    have := hire_any T A tn tc n c _ t l W (ht.below hW (Nat.le_refl _) hW.size) (h.below hW (Nat.le_refl _) hW.size)
    rwa [hh] at this
  clear ht h hh
  go_enter Try.func7, Try.ntmps7
  go_wp2_with (first | (go_at_call 11; refine (awake_true _).mono ?_; rintro e w1 ⟨hb1, rfl⟩; have HB1 := Lib.hid hb1; clear hb1) | (go_at_call 19; with_reducible refine (HI.out _ HB1.out).mono ?_; rintro e w' ⟨rfl, rfl⟩))
  go_ret
  exact ⟨HB1.out, rfl⟩
set_option maxRecDepth 100000 in
set_option maxHeartbeats 8000000 in
theorem lawAcct_bad (T A : Option Addr) (tn tc n c : Nat) (t : List Q4) (l : List Mv) (day : Int) (w : World) (ht : Rws Q4.cs 4 w w.heap.size T tn tc t) (h : Rws Mv.cs 4 w w.heap.size A n c l) (hh : hB t l = true) (hE : acErr t l day ≠ 0) :
    Calls Try.prog 7 #[.slice T tn tc, .slice A n c, .int .i64 day] w fun e w' => Below w.heap.size w w' ∧ e = .returned (.bool true) := by
  have HTL := Lib.hid ht.len
  have HLL := Lib.hid h.len
  obtain ⟨hlen, hts, hs⟩ := hB_facts hh
  rw [HTL.out, HLL.out] at hlen
  have hcap := h.cap
  have hmax := h.max
  have hcapt := ht.cap
  have hmaxt := ht.max
  have HT0 : Hid (∀ W, Below w.heap.size w W → Rws Q4.cs 4 W W.heap.size T tn tc t) := Lib.hid fun W hW => ht.below hW (Nat.le_refl _) hW.size
  have H0 : Hid (∀ W, Below w.heap.size w W → Rws Mv.cs 4 W W.heap.size A n c l) := Lib.hid fun W hW => h.below hW (Nat.le_refl _) hW.size
  have HI : Hid (∀ W, Below w.heap.size w W → Calls Try.prog 19 #[.slice T tn tc, .slice A n c] W fun e w' => W = w' ∧ e = .returned (.bool true)) := Lib.hid fun W hW => by
    have := hire_any T A tn tc n c _ t l W (HT0.out W hW) (H0.out W hW)
    rwa [hh] at this
  have TC : Hid (∀ W, Below w.heap.size w W → Calls Try.prog 22 #[.slice T tn tc] W fun e w' => Below W.heap.size W w' ∧ ∃ v, e = .returned v ∧ w'.ownsRow W.heap.size 56 4 v tn (t.flatMap Q4.cs)) := Lib.hid fun W hW =>
    terms_any T tn tc t W (HT0.out W hW) (by omega)
  have MC : Hid (∀ W, Below w.heap.size w W → Calls Try.prog 25 #[.slice A n c] W fun e w' => Below W.heap.size W w' ∧ ∃ v, e = .returned v ∧ w'.ownsRow W.heap.size 90 4 v n (l.flatMap Mv.cs)) := Lib.hid fun W hW =>
    moves_any A n c l W (H0.out W hW) (by omega)
  obtain ⟨D, hD⟩ : ∃ D, checkErr t l = D := ⟨_, rfl⟩
  obtain ⟨F, hF⟩ : ∃ F, acErr t l day = F := ⟨_, rfl⟩
  have AB : Hid (∀ T tc A c W, Rws Q4.cs 4 W W.heap.size T tn tc t → Rws Mv.cs 4 W W.heap.size A n c l → Calls Try.prog 33 #[.slice T tn tc, .slice A n c, .int .i64 day] W fun e w' => Below W.heap.size W w' ∧ e = .returned (.tuple #[.slice none 0 0, .int .i64 F])) := Lib.hid fun T tc A c W h1 h2 => by
    have := account_bad T A tn tc n c t l day W h1 h2 hts hs hE
    rwa [hF] at this
  have BB : Hid (∀ T tc A c W, Rws Q4.cs 4 W W.heap.size T tn tc t → Rws Mv.cs 4 W W.heap.size A n c l → Calls Try.prog 34 #[.slice T tn tc, .slice A n c, .int .i64 day] W fun e w' => Below W.heap.size W w' ∧ e = .returned (.tuple #[.slice none 0 0, .int .i64 F])) := Lib.hid fun T tc A c W h1 h2 => by
    have := balance_bad T A tn tc n c t l day W h1 h2 hts hs hE
    rwa [hF] at this
  have OB : Hid (∀ T tc A c W, Rws Q4.cs 4 W W.heap.size T tn tc t → Rws Mv.cs 4 W W.heap.size A n c l → Calls Try.prog 35 #[.slice T tn tc, .slice A n c, .int .i64 day] W fun e w' => Below W.heap.size W w' ∧ e = .returned (.tuple #[.slice none 0 0, .int .i64 F])) := Lib.hid fun T tc A c W h1 h2 => by
    have := onHire_bad T A tn tc n c t l day W h1 h2 hts hs hE
    rwa [hF] at this
  have CK : Hid (∀ W, Below w.heap.size w W → Calls Try.prog 36 #[.slice T tn tc, .slice A n c] W fun e w' => Below W.heap.size W w' ∧ e = .returned (.int .i64 D)) := Lib.hid fun W hW => by
    have := refCheck_any T A tn tc n c t l W (HT0.out W hW) (H0.out W hW) hts
    rwa [hD] at this
  unfold acErr at hF
  rw [hD] at hF
  obtain ⟨v, hv⟩ : ∃ v, dayB day = v := ⟨_, rfl⟩
  have HD := Lib.hid hv
  rw [hv] at hF
  have hE2 : F ≠ 0 := by
    unfold acErr at hE
    rw [hD, hv, hF] at hE
    exact hE
  clear ht h hh hD hts hs hv hE
  by_cases h0 : D = 0
  · rw [if_pos h0] at hF
    subst h0
    cases v
    · rw [if_neg (by simp)] at hF
      subst hF
      clear hE2
      (
          go_enter Try.func7, Try.ntmps7
          go_upto_region 6 with (first | (go_at_call 11; refine (awake_true _).mono ?_; rintro e w1 ⟨hb1, rfl⟩; have HB1 := Lib.hid hb1; clear hb1) | (go_at_call 19; with_reducible refine (HI.out _ HB1.out).mono ?_; rintro e w' ⟨rfl, rfl⟩) | (go_at_call 22; with_reducible refine (TC.out _ HB1.out).mono ?_; rintro e w2 ⟨hb2, v, rfl, hown⟩; obtain ⟨T2, d2, rfl, hr⟩ := Rws.of_own hown HTL.out; have HT2 := Lib.hid hr; have HS2 : Hid (Below w1.heap.size w1 w2) := Lib.hid hb2; have HB2 : Hid (Below w.heap.size w w2) := Lib.hid (Below.step2 hb2 HB1.out); clear hown hr hb2) | (go_at_call 25; with_reducible refine (MC.out _ HB2.out).mono ?_; rintro e w3 ⟨hb3, v, rfl, hown⟩; obtain ⟨A3, d3, rfl, hr⟩ := Rws.of_own hown HLL.out; have HM3 := Lib.hid hr; have HT3 := Lib.hid (HT2.out.below hb3 (Nat.le_refl _) hb3.size); have HS3 : Hid (Below w2.heap.size w2 w3) := Lib.hid hb3; have HB3 : Hid (Below w.heap.size w w3) := Lib.hid (Below.step2 hb3 HB2.out); clear hown hr hb3) | (go_at_call 33; with_reducible refine (AB.out _ _ _ _ _ HT3.out HM3.out).mono ?_; rintro e w4 ⟨hb4, rfl⟩; have HB4 : Hid (Below w.heap.size w w4) := Lib.hid (Below.step2 hb4 HB3.out); clear hb4))
          go_upto_region 7 with (first | (go_at_call 22; with_reducible refine (TC.out _ HB4.out).mono ?_; rintro e w5 ⟨hb5, v, rfl, hown⟩; obtain ⟨T5, d5, rfl, hr⟩ := Rws.of_own hown HTL.out; have HT5 := Lib.hid hr; have HS5 : Hid (Below w4.heap.size w4 w5) := Lib.hid hb5; have HB5 : Hid (Below w.heap.size w w5) := Lib.hid (Below.step2 hb5 HB4.out); clear hown hr hb5) | (go_at_call 25; with_reducible refine (MC.out _ HB5.out).mono ?_; rintro e w6 ⟨hb6, v, rfl, hown⟩; obtain ⟨A6, d6, rfl, hr⟩ := Rws.of_own hown HLL.out; have HM6 := Lib.hid hr; have HT6 := Lib.hid (HT5.out.below hb6 (Nat.le_refl _) hb6.size); have HS6 : Hid (Below w5.heap.size w5 w6) := Lib.hid hb6; have HB6 : Hid (Below w.heap.size w w6) := Lib.hid (Below.step2 hb6 HB5.out); clear hown hr hb6) | (go_at_call 34; with_reducible refine (BB.out _ _ _ _ _ HT6.out HM6.out).mono ?_; rintro e w7 ⟨hb7, rfl⟩; have HB7 : Hid (Below w.heap.size w w7) := Lib.hid (Below.step2 hb7 HB6.out); clear hb7))
          go_wp2_with (first | (go_at_call 22; with_reducible refine (TC.out _ HB7.out).mono ?_; rintro e w8 ⟨hb8, v, rfl, hown⟩; obtain ⟨T8, d8, rfl, hr⟩ := Rws.of_own hown HTL.out; have HT8 := Lib.hid hr; have HS8 : Hid (Below w7.heap.size w7 w8) := Lib.hid hb8; have HB8 : Hid (Below w.heap.size w w8) := Lib.hid (Below.step2 hb8 HB7.out); clear hown hr hb8) | (go_at_call 25; with_reducible refine (MC.out _ HB8.out).mono ?_; rintro e w9 ⟨hb9, v, rfl, hown⟩; obtain ⟨A9, d9, rfl, hr⟩ := Rws.of_own hown HLL.out; have HM9 := Lib.hid hr; have HT9 := Lib.hid (HT8.out.below hb9 (Nat.le_refl _) hb9.size); have HS9 : Hid (Below w8.heap.size w8 w9) := Lib.hid hb9; have HB9 : Hid (Below w.heap.size w w9) := Lib.hid (Below.step2 hb9 HB8.out); clear hown hr hb9) | (go_at_call 35; with_reducible refine (OB.out _ _ _ _ _ HT9.out HM9.out).mono ?_; rintro e w10 ⟨hb10, rfl⟩; have HB10 : Hid (Below w.heap.size w w10) := Lib.hid (Below.step2 hb10 HB9.out); clear hb10) | (go_at_call 36; with_reducible refine (CK.out _ HB10.out).mono ?_; rintro e w11 ⟨hb11, rfl⟩; have HS11 : Hid (Below w10.heap.size w10 w11) := Lib.hid hb11; have HB11 : Hid (Below w.heap.size w w11) := Lib.hid (Below.step2 hb11 HB10.out); clear hb11) | (go_at_call 31; with_reducible refine (refIsDay_b HD.out _).mono ?_; rintro e w' ⟨rfl, rfl⟩))
          go_ret
          exact ⟨HB11.out, rfl⟩)
    · exact absurd hF.symm hE2
  · rw [if_neg h0] at hF
    subst hF
    have d0 : (D == 0) = false := by simpa using h0
    have d1 : (D != 0) = true := by simpa using h0
    clear hE2 h0
    (
        go_enter Try.func7, Try.ntmps7
        go_upto_region 6 with (first | (go_at_call 11; refine (awake_true _).mono ?_; rintro e w1 ⟨hb1, rfl⟩; have HB1 := Lib.hid hb1; clear hb1) | (go_at_call 19; with_reducible refine (HI.out _ HB1.out).mono ?_; rintro e w' ⟨rfl, rfl⟩) | (go_at_call 22; with_reducible refine (TC.out _ HB1.out).mono ?_; rintro e w2 ⟨hb2, v, rfl, hown⟩; obtain ⟨T2, d2, rfl, hr⟩ := Rws.of_own hown HTL.out; have HT2 := Lib.hid hr; have HS2 : Hid (Below w1.heap.size w1 w2) := Lib.hid hb2; have HB2 : Hid (Below w.heap.size w w2) := Lib.hid (Below.step2 hb2 HB1.out); clear hown hr hb2) | (go_at_call 25; with_reducible refine (MC.out _ HB2.out).mono ?_; rintro e w3 ⟨hb3, v, rfl, hown⟩; obtain ⟨A3, d3, rfl, hr⟩ := Rws.of_own hown HLL.out; have HM3 := Lib.hid hr; have HT3 := Lib.hid (HT2.out.below hb3 (Nat.le_refl _) hb3.size); have HS3 : Hid (Below w2.heap.size w2 w3) := Lib.hid hb3; have HB3 : Hid (Below w.heap.size w w3) := Lib.hid (Below.step2 hb3 HB2.out); clear hown hr hb3) | (go_at_call 33; with_reducible refine (AB.out _ _ _ _ _ HT3.out HM3.out).mono ?_; rintro e w4 ⟨hb4, rfl⟩; have HB4 : Hid (Below w.heap.size w w4) := Lib.hid (Below.step2 hb4 HB3.out); clear hb4))
        go_upto_region 7 with (first | (go_at_call 22; with_reducible refine (TC.out _ HB4.out).mono ?_; rintro e w5 ⟨hb5, v, rfl, hown⟩; obtain ⟨T5, d5, rfl, hr⟩ := Rws.of_own hown HTL.out; have HT5 := Lib.hid hr; have HS5 : Hid (Below w4.heap.size w4 w5) := Lib.hid hb5; have HB5 : Hid (Below w.heap.size w w5) := Lib.hid (Below.step2 hb5 HB4.out); clear hown hr hb5) | (go_at_call 25; with_reducible refine (MC.out _ HB5.out).mono ?_; rintro e w6 ⟨hb6, v, rfl, hown⟩; obtain ⟨A6, d6, rfl, hr⟩ := Rws.of_own hown HLL.out; have HM6 := Lib.hid hr; have HT6 := Lib.hid (HT5.out.below hb6 (Nat.le_refl _) hb6.size); have HS6 : Hid (Below w5.heap.size w5 w6) := Lib.hid hb6; have HB6 : Hid (Below w.heap.size w w6) := Lib.hid (Below.step2 hb6 HB5.out); clear hown hr hb6) | (go_at_call 34; with_reducible refine (BB.out _ _ _ _ _ HT6.out HM6.out).mono ?_; rintro e w7 ⟨hb7, rfl⟩; have HB7 : Hid (Below w.heap.size w w7) := Lib.hid (Below.step2 hb7 HB6.out); clear hb7))
        go_wp2_with (first | (go_at_call 22; with_reducible refine (TC.out _ HB7.out).mono ?_; rintro e w8 ⟨hb8, v, rfl, hown⟩; obtain ⟨T8, d8, rfl, hr⟩ := Rws.of_own hown HTL.out; have HT8 := Lib.hid hr; have HS8 : Hid (Below w7.heap.size w7 w8) := Lib.hid hb8; have HB8 : Hid (Below w.heap.size w w8) := Lib.hid (Below.step2 hb8 HB7.out); clear hown hr hb8) | (go_at_call 25; with_reducible refine (MC.out _ HB8.out).mono ?_; rintro e w9 ⟨hb9, v, rfl, hown⟩; obtain ⟨A9, d9, rfl, hr⟩ := Rws.of_own hown HLL.out; have HM9 := Lib.hid hr; have HT9 := Lib.hid (HT8.out.below hb9 (Nat.le_refl _) hb9.size); have HS9 : Hid (Below w8.heap.size w8 w9) := Lib.hid hb9; have HB9 : Hid (Below w.heap.size w w9) := Lib.hid (Below.step2 hb9 HB8.out); clear hown hr hb9) | (go_at_call 35; with_reducible refine (OB.out _ _ _ _ _ HT9.out HM9.out).mono ?_; rintro e w10 ⟨hb10, rfl⟩; have HB10 : Hid (Below w.heap.size w w10) := Lib.hid (Below.step2 hb10 HB9.out); clear hb10) | (go_at_call 36; with_reducible refine (CK.out _ HB10.out).mono ?_; rintro e w11 ⟨hb11, rfl⟩; have HS11 : Hid (Below w10.heap.size w10 w11) := Lib.hid hb11; have HB11 : Hid (Below w.heap.size w w11) := Lib.hid (Below.step2 hb11 HB10.out); clear hb11) | (go_at_call 31; with_reducible refine (refIsDay_b HD.out _).mono ?_; rintro e w' ⟨rfl, rfl⟩))
        go_ret
        exact ⟨HB11.out, rfl⟩)
theorem eq_arr4 (a b c d : Int) (w : World) : (Op.equalIn 10000 73 (.agg #[.int .i64 a, .int .i64 b, .int .i64 c, .int .i64 d]) (.agg #[.int .i64 a, .int .i64 b, .int .i64 c, .int .i64 d])).run Try.prog w = .ok true w := by
  have u3 := Try.underlying3
  have a3 := Try.isAgg3
  have z3 := Try.sizeOf3
  rw [show (10000 : Nat) = 9999 + 1 from rfl, Op.equalIn]
  simp only [Sem.run_bind, run_underlying Try.underlying73, Result.andThen_ok]
  simp only [Std.Legacy.Range.forIn_eq_forIn_range', Std.Legacy.Range.size, Nat.sub_zero, Nat.add_sub_cancel, Nat.div_one, List.range'_succ, List.range'_zero, List.forIn_cons, List.forIn_nil]
  go_simp
theorem rws_i1 {w : World} {B n c k : Nat} {A : Option Addr} {l : List Int} (h : Rws i1 1 w B A n c l) (hk : k < n) : ∃ b o x, A = some ⟨b, o, none⟩ ∧ b < B ∧ l[k]? = some x ∧ w.cell? ⟨b, o + k, none⟩ = some (.int .i64 x) := by
  obtain ⟨b, o, x, e, hb, hx, hc⟩ := h.at_ i1_wide hk
  refine ⟨b, o, x, e, hb, hx, ?_⟩
  have := hc 0 _ rfl
  rwa [Nat.mul_one, Nat.add_zero] at this
set_option maxRecDepth 100000 in
set_option maxHeartbeats 16000000 in
theorem lawAcct_ok (T A : Option Addr) (tn tc n c : Nat) (t : List Q4) (l : List Mv) (day : Int) (w : World) (ht : Rws Q4.cs 4 w w.heap.size T tn tc t) (h : Rws Mv.cs 4 w w.heap.size A n c l) (hh : hB t l = true) (hE : checkErr t l = 0) (hd : dayB day = true) :
    Calls Try.prog 7 #[.slice T tn tc, .slice A n c, .int .i64 day] w fun e w' => Below w.heap.size w w' ∧ e = .returned (.bool true) := by
  have HTL := Lib.hid ht.len
  have HLL := Lib.hid h.len
  obtain ⟨hlen, hts, hs⟩ := hB_facts hh
  rw [HTL.out, HLL.out] at hlen
  have hcap := h.cap
  have hmax := h.max
  have hcapt := ht.cap
  have hmaxt := ht.max
  have HT0 : Hid (∀ W, Below w.heap.size w W → Rws Q4.cs 4 W W.heap.size T tn tc t) := Lib.hid fun W hW => ht.below hW (Nat.le_refl _) hW.size
  have H0 : Hid (∀ W, Below w.heap.size w W → Rws Mv.cs 4 W W.heap.size A n c l) := Lib.hid fun W hW => h.below hW (Nat.le_refl _) hW.size
  have HI : Hid (∀ W, Below w.heap.size w W → Calls Try.prog 19 #[.slice T tn tc, .slice A n c] W fun e w' => W = w' ∧ e = .returned (.bool true)) := Lib.hid fun W hW => by
    have := hire_any T A tn tc n c _ t l W (HT0.out W hW) (H0.out W hW)
    rwa [hh] at this
  have TC : Hid (∀ W, Below w.heap.size w W → Calls Try.prog 22 #[.slice T tn tc] W fun e w' => Below W.heap.size W w' ∧ ∃ v, e = .returned v ∧ w'.ownsRow W.heap.size 56 4 v tn (t.flatMap Q4.cs)) := Lib.hid fun W hW =>
    terms_any T tn tc t W (HT0.out W hW) (by omega)
  have MC : Hid (∀ W, Below w.heap.size w W → Calls Try.prog 25 #[.slice A n c] W fun e w' => Below W.heap.size W w' ∧ ∃ v, e = .returned v ∧ w'.ownsRow W.heap.size 90 4 v n (l.flatMap Mv.cs)) := Lib.hid fun W hW =>
    moves_any A n c l W (H0.out W hW) (by omega)
  have hg := Good.of hE
  have hgu := hg.up day
  have HD := Lib.hid hd
  obtain ⟨L, hL⟩ : ∃ L, upM l day = L := ⟨_, rfl⟩
  obtain ⟨CC, hCC⟩ : ∃ C, chgs t L day = C := ⟨_, rfl⟩
  obtain ⟨BB, hBB⟩ : ∃ B, bals t L = B := ⟨_, rfl⟩
  obtain ⟨N, hN⟩ : ∃ N, CC.length = N := ⟨_, rfl⟩
  have HNL := Lib.hid hN
  have HBL : Hid (BB.length = tn) := Lib.hid (by rw [← hBB]; unfold bals; rw [List.length_map, HTL.out])
  have HHL : Hid ((BB.map (·.d)).length = tn) := Lib.hid (by rw [List.length_map, HBL.out])
  have HEA : Hid (∀ (k : Nat) (x : B4), BB[k]? = some x → (x.a = x.b + x.c + x.d) ∧ (0 ≤ x.b ∧ x.b ≤ 30000000) ∧ (0 ≤ x.c ∧ x.c ≤ 30000000) ∧ (-60000000 ≤ x.d ∧ x.d ≤ 30000000)) := Lib.hid fun k x hx => by
    rw [← hBB, ← hL] at hx
    unfold bals at hx
    rw [List.getElem?_map] at hx
    obtain ⟨y, -, rfl⟩ := Option.map_eq_some_iff.1 hx
    have b0 := cnt_bd (upM l day) 0 y.s hgu.ok
    have b1 := cnt_bd (upM l day) 1 y.s hgu.ok
    have b2 := cnt_bd (upM l day) 2 y.s hgu.ok
    have b3 := stock_cnt (upM l day) y.s hgu.ok
    have b4 := hgu.ln
    unfold balP
    dsimp only
    omega
  have CK : Hid (∀ W, Below w.heap.size w W → Calls Try.prog 36 #[.slice T tn tc, .slice A n c] W fun e w' => Below W.heap.size W w' ∧ e = .returned (.int .i64 0)) := Lib.hid fun W hW => by
    have := refCheck_any T A tn tc n c t l W (HT0.out W hW) (H0.out W hW) hts
    rwa [hE] at this
  have AO : Hid (∀ T tc A c W, Rws Q4.cs 4 W W.heap.size T tn tc t → Rws Mv.cs 4 W W.heap.size A n c l → Calls Try.prog 33 #[.slice T tn tc, .slice A n c, .int .i64 day] W fun e w' => Below W.heap.size W w' ∧ ∃ v, e = .returned (.tuple #[v, .int .i64 0]) ∧ w'.ownsRow W.heap.size 85 4 v N (CC.flatMap Q4.cs)) := Lib.hid fun T tc A c W h1 h2 => by
    have := account_ok T A tn tc n c t l day W h1 h2 hts hs hE hd
    rwa [hL, hCC, hN] at this
  have BO : Hid (∀ T tc A c W, Rws Q4.cs 4 W W.heap.size T tn tc t → Rws Mv.cs 4 W W.heap.size A n c l → Calls Try.prog 34 #[.slice T tn tc, .slice A n c, .int .i64 day] W fun e w' => Below W.heap.size W w' ∧ ∃ v, e = .returned (.tuple #[v, .int .i64 0]) ∧ w'.ownsRow W.heap.size 73 4 v tn (BB.flatMap B4.cs)) := Lib.hid fun T tc A c W h1 h2 => by
    have := balance_ok T A tn tc n c t l day W h1 h2 hts hs hE hd
    rwa [hL, hBB, HBL.out] at this
  have OO : Hid (∀ T tc A c W, Rws Q4.cs 4 W W.heap.size T tn tc t → Rws Mv.cs 4 W W.heap.size A n c l → Calls Try.prog 35 #[.slice T tn tc, .slice A n c, .int .i64 day] W fun e w' => Below W.heap.size W w' ∧ ∃ v, e = .returned (.tuple #[v, .int .i64 0]) ∧ w'.ownsRow W.heap.size 3 1 v tn ((BB.map (·.d)).flatMap i1)) := Lib.hid fun T tc A c W h1 h2 => by
    have := onHire_ok T A tn tc n c t l day W h1 h2 hts hs hE hd
    unfold hires at this
    rwa [hL, hBB, HHL.out] at this
  have RB : Hid (∀ W, Below w.heap.size w W → Calls Try.prog 37 #[.slice T tn tc, .slice A n c, .int .i64 day] W fun e w' => Below W.heap.size W w' ∧ ∃ v, e = .returned v ∧ w'.ownsRow W.heap.size 73 4 v tn (BB.flatMap B4.cs)) := Lib.hid fun W hW => by
    have := refBalance_any T A tn tc n c t l day W (HT0.out W hW) (H0.out W hW) hg
    rwa [hL, hBB, HBL.out] at this
  have RA : Hid (∀ W, Below w.heap.size w W → Calls Try.prog 39 #[.slice T tn tc, .slice A n c, .int .i64 day] W fun e w' => Below W.heap.size W w' ∧ ∃ v, e = .returned v ∧ w'.ownsRow W.heap.size 85 4 v N (CC.flatMap Q4.cs)) := Lib.hid fun W hW => by
    have := refAccount_any T A tn tc n c t l day W (HT0.out W hW) (H0.out W hW) hg hd
    rwa [hL, hCC, hN] at this
  clear ht h hh hE hd hg hgu hL hCC hBB hN hts hs
  go_enter Try.func7, Try.ntmps7
  go_upto_region 6 with (first | (go_at_call 11; refine (awake_true _).mono ?_; rintro e w1 ⟨hb1, rfl⟩; have HB1 := Lib.hid hb1; clear hb1) | (go_at_call 19; with_reducible refine (HI.out _ HB1.out).mono ?_; rintro e w' ⟨rfl, rfl⟩) | (go_at_call 22; with_reducible refine (TC.out _ HB1.out).mono ?_; rintro e w2 ⟨hb2, v, rfl, hown⟩; obtain ⟨T2, d2, rfl, hr⟩ := Rws.of_own hown HTL.out; have HT2 := Lib.hid hr; have HS2 : Hid (Below w1.heap.size w1 w2) := Lib.hid hb2; have HB2 : Hid (Below w.heap.size w w2) := Lib.hid (Below.step2 hb2 HB1.out); clear hown hr hb2) | (go_at_call 25; with_reducible refine (MC.out _ HB2.out).mono ?_; rintro e w3 ⟨hb3, v, rfl, hown⟩; obtain ⟨A3, d3, rfl, hr⟩ := Rws.of_own hown HLL.out; have HM3 := Lib.hid hr; have HT3 := Lib.hid (HT2.out.below hb3 (Nat.le_refl _) hb3.size); have HS3 : Hid (Below w2.heap.size w2 w3) := Lib.hid hb3; have HB3 : Hid (Below w.heap.size w w3) := Lib.hid (Below.step2 hb3 HB2.out); clear hown hr hb3) | (go_at_call 33; with_reducible refine (AO.out _ _ _ _ _ HT3.out HM3.out).mono ?_; rintro e w4 ⟨hb4, v, rfl, hown⟩; obtain ⟨A4, d4, rfl, hr⟩ := Rws.of_own hown HNL.out; have HR4 := Lib.hid hr; have HS4 : Hid (Below w3.heap.size w3 w4) := Lib.hid hb4; have HB4 : Hid (Below w.heap.size w w4) := Lib.hid (Below.step2 hb4 HB3.out); clear hown hr hb4))
  go_upto_region 7 with (first | (go_at_call 22; with_reducible refine (TC.out _ HB4.out).mono ?_; rintro e w5 ⟨hb5, v, rfl, hown⟩; obtain ⟨T5, d5, rfl, hr⟩ := Rws.of_own hown HTL.out; have HT5 := Lib.hid hr; have HS5 : Hid (Below w4.heap.size w4 w5) := Lib.hid hb5; have HB5 : Hid (Below w.heap.size w w5) := Lib.hid (Below.step2 hb5 HB4.out); clear hown hr hb5) | (go_at_call 25; with_reducible refine (MC.out _ HB5.out).mono ?_; rintro e w6 ⟨hb6, v, rfl, hown⟩; obtain ⟨A6, d6, rfl, hr⟩ := Rws.of_own hown HLL.out; have HM6 := Lib.hid hr; have HT6 := Lib.hid (HT5.out.below hb6 (Nat.le_refl _) hb6.size); have HS6 : Hid (Below w5.heap.size w5 w6) := Lib.hid hb6; have HB6 : Hid (Below w.heap.size w w6) := Lib.hid (Below.step2 hb6 HB5.out); clear hown hr hb6) | (go_at_call 34; with_reducible refine (BO.out _ _ _ _ _ HT6.out HM6.out).mono ?_; rintro e w7 ⟨hb7, v, rfl, hown⟩; obtain ⟨A7, d7, rfl, hr⟩ := Rws.of_own hown HBL.out; have HR7 := Lib.hid hr; have HS7 : Hid (Below w6.heap.size w6 w7) := Lib.hid hb7; have HB7 : Hid (Below w.heap.size w w7) := Lib.hid (Below.step2 hb7 HB6.out); clear hown hr hb7))
  go_wp2_with (first
    | (go_at_call 22; with_reducible refine (TC.out _ HB7.out).mono ?_; rintro e w8 ⟨hb8, v, rfl, hown⟩; obtain ⟨T8, d8, rfl, hr⟩ := Rws.of_own hown HTL.out; have HT8 := Lib.hid hr; have HS8 : Hid (Below w7.heap.size w7 w8) := Lib.hid hb8; have HB8 : Hid (Below w.heap.size w w8) := Lib.hid (Below.step2 hb8 HB7.out); clear hown hr hb8)
    | (go_at_call 25; with_reducible refine (MC.out _ HB8.out).mono ?_; rintro e w9 ⟨hb9, v, rfl, hown⟩; obtain ⟨A9, d9, rfl, hr⟩ := Rws.of_own hown HLL.out; have HM9 := Lib.hid hr; have HT9 := Lib.hid (HT8.out.below hb9 (Nat.le_refl _) hb9.size); have HS9 : Hid (Below w8.heap.size w8 w9) := Lib.hid hb9; have HB9 : Hid (Below w.heap.size w w9) := Lib.hid (Below.step2 hb9 HB8.out); clear hown hr hb9)
    | (go_at_call 35; with_reducible refine (OO.out _ _ _ _ _ HT9.out HM9.out).mono ?_; rintro e w10 ⟨hb10, v, rfl, hown⟩; obtain ⟨A10, d10, rfl, hr⟩ := Rws.of_own hown HHL.out; have HR10 := Lib.hid hr; have HS10 : Hid (Below w9.heap.size w9 w10) := Lib.hid hb10; have HB10 : Hid (Below w.heap.size w w10) := Lib.hid (Below.step2 hb10 HB9.out); clear hown hr hb10)
    | (go_at_call 36; with_reducible refine (CK.out _ HB10.out).mono ?_; rintro e w11 ⟨hb11, rfl⟩; have HS11 : Hid (Below w10.heap.size w10 w11) := Lib.hid hb11; have HB11 : Hid (Below w.heap.size w w11) := Lib.hid (Below.step2 hb11 HB10.out); clear hb11)
    | (go_at_call 31; with_reducible refine (refIsDay_b HD.out _).mono ?_; rintro e w' ⟨rfl, rfl⟩)
    | (go_at_call 37; with_reducible refine (RB.out _ HB11.out).mono ?_; rintro e w12 ⟨hb12, v, rfl, hown⟩; obtain ⟨A12, d12, rfl, hr⟩ := Rws.of_own hown HBL.out; have HR12 := Lib.hid hr; have HS12 : Hid (Below w11.heap.size w11 w12) := Lib.hid hb12; have HB12 : Hid (Below w.heap.size w w12) := Lib.hid (Below.step2 hb12 HB11.out); clear hown hr hb12)
    | (go_at_call 39; with_reducible refine (RA.out _ HB12.out).mono ?_; rintro e w13 ⟨hb13, v, rfl, hown⟩; obtain ⟨A13, d13, rfl, hr⟩ := Rws.of_own hown HNL.out; have HR13 := Lib.hid hr; have HS13 : Hid (Below w12.heap.size w12 w13) := Lib.hid hb13; have HB13 : Hid (Below w.heap.size w w13) := Lib.hid (Below.step2 hb13 HB12.out); clear hown hr hb13)
    | (go_at_call 38; go_loud (refine (sameCharges_eq A4 A13 _ _ _ CC w13 (HR4.out.below (Below.step2 HS13.out (Below.step2 HS12.out (Below.step2 HS11.out (Below.step2 HS10.out (Below.step2 HS9.out (Below.step2 HS8.out (Below.step2 HS7.out (Below.step2 HS6.out HS5.out)))))))) (Nat.le_refl _) (Below.step2 HS13.out (Below.step2 HS12.out (Below.step2 HS11.out (Below.step2 HS10.out (Below.step2 HS9.out (Below.step2 HS8.out (Below.step2 HS7.out (Below.step2 HS6.out HS5.out)))))))).size) HR13.out).mono ?_); rintro e w14 ⟨hb14, rfl⟩; have HS14 : Hid (Below w13.heap.size w13 w14) := Lib.hid hb14; have HB14 : Hid (Below w.heap.size w w14) := Lib.hid (Below.step2 hb14 HB13.out); clear hb14))
  have G12 := Below.step2 HS14.out HS13.out
  have G10 := Below.step2 HS14.out (Below.step2 HS13.out (Below.step2 HS12.out HS11.out))
  have G7 := Below.step2 HS14.out (Below.step2 HS13.out (Below.step2 HS12.out (Below.step2 HS11.out (Below.step2 HS10.out (Below.step2 HS9.out HS8.out)))))
  have HW := Lib.hid (HR12.out.below G12 (Nat.le_refl _) G12.size)
  have HH := Lib.hid (HR10.out.below G10 (Nat.le_refl _) G10.size)
  have HBB := Lib.hid (HR7.out.below G7 (Nat.le_refl _) G7.size)
  clear G12 G10 G7
  go_loopw [15] (fun i wr => ∃ k : Nat, k ≤ tn ∧ i = .int .i64 k ∧ ∃ q, wr = w14.drewN q) (fun i _ => tn - (intOf i).toNat)
  case atStart => exact ⟨0, Nat.zero_le _, rfl, 0, rfl⟩
  case round =>
    obtain ⟨k, hk, rfl, q0, rfl⟩ := hrel
    by_cases hlt : k < tn
    · have g1 := HW.out
      have g2 := HH.out
      have g3 := HBB.out
      have hc1 := g1.cap
      have hm1 := g1.max
      have hc2 := g2.cap
      have hm2 := g2.max
      have hc3 := g3.cap
      have hm3 := g3.max
      obtain ⟨b1, o1, ⟨ya, yb, yc, yd⟩, rfl, ob1, hy, c0, c1, c2, c3⟩ := g1.b4 hlt
      obtain ⟨b2, o2, x2, rfl, ob2, hx2, d0⟩ := rws_i1 g2 hlt
      obtain ⟨b3, o3, x3, rfl, ob3, hx3, e0, e1, e2, e3⟩ := g3.b4 hlt
      obtain rfl : x3 = ⟨ya, yb, yc, yd⟩ := by rw [hy] at hx3; exact (Option.some.inj hx3).symm
      obtain rfl : x2 = yd := by rw [List.getElem?_map, hy] at hx2; exact (Option.some.inj hx2).symm
      obtain ⟨s0, s1, s2, s3⟩ := HEA.out _ _ hy
      dsimp only at c0 c1 c2 c3 e0 e1 e2 e3 s0 s1 s2 s3
      have hw1 : IntKind.i64.wrap (yb + yc) = yb + yc := IntWalk.i64_in _ (by omega)
      have hw2 : IntKind.i64.wrap (yb + yc + x2) = ya := by rw [IntWalk.i64_in _ (by omega)]; exact s0.symm
      have z1 : (0 : Int) ≤ (k : Int) := by omega
      have z2 : (k : Int) < (tn : Int) := by omega
      have heq := fun W : World => eq_arr4 ya yb yc x2 W
      clear g1 g2 g3 hy hx2 hx3 s0 s1 s2 s3 HEA AO BO OO RB RA CK TC MC HI HT0 H0
      go_wp2
      go_quiet (fail)
      go_wp2
      go_roundw
      case rel => exact ⟨k + 1, by omega, by go_num, _, rfl⟩
      case measure => simp [intOf]; omega
    · go_wp2
      go_ret
      have hb0 := HB14.out
      exact ⟨(by repeat (first | with_reducible exact Below.refl _ _ | with_reducible assumption | with_reducible refine Below.drew ?_ | with_reducible refine Below.drewN ?_ _ | with_reducible refine Below.alloc2 ?_ _ | with_reducible refine Below.alloc ?_ (by first | omega | (simp <;> omega)) _ | with_reducible refine Below.setCell ?_ (by first | omega | (simp <;> omega)) _ | with_reducible refine Below.step2 (by with_reducible assumption) ?_ | with_reducible refine Below.step (by with_reducible assumption) ?_ (by first | omega | (simp <;> omega)))), rfl⟩
theorem lawAcct_any (T A : Option Addr) (tn tc n c : Nat) (t : List Q4) (l : List Mv) (day : Int) (w : World) (ht : Rws Q4.cs 4 w w.heap.size T tn tc t) (h : Rws Mv.cs 4 w w.heap.size A n c l) :
    Calls Try.prog 7 #[.slice T tn tc, .slice A n c, .int .i64 day] w fun e w' => Below w.heap.size w w' ∧ e = .returned (.bool true) := by
  by_cases hh : hB t l = true
  · by_cases hE : acErr t l day = 0
    · have h0 : checkErr t l = 0 := Classical.byContradiction fun q => by
        unfold acErr at hE
        rw [if_neg q] at hE
        exact q hE
      have h1 : dayB day = true := Classical.byContradiction fun q => by
        unfold acErr at hE
        rw [if_pos h0, if_neg q] at hE
        cases hE
      exact lawAcct_ok T A tn tc n c t l day w ht h hh h0 h1
    · exact lawAcct_bad T A tn tc n c t l day w ht h hh hE
  · exact lawAcct_not T A tn tc n c t l day w ht h (by simpa using hh)

end Go.Proofs.Ytbeijeblbchglaa
