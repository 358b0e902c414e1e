/- The law RecordDays, out of its callees' contracts. -/
import Derived.Test.YtbeijeblbchglaaRefAcct9
import Derived.Test.YtbeijeblbchglaaLawMoves9
import Derived.Test.YtbeijeblbchglaaLineG
namespace Go.Proofs.Ytbeijeblbchglaa
open Go.RowKit Go.WideShapes Go.Deep

theorem days_least {K D n a : Int} (h : D ≤ 7 * K) (hn : 0 ≤ n) (ha : 0 ≤ a) : D * n * a ≤ 7 * (n * K * a) := by
  have h1 : D * (n * a) ≤ 7 * K * (n * a) := Int.mul_le_mul_of_nonneg_right h (Int.mul_nonneg hn ha)
  have e1 : D * n * a = D * (n * a) := Int.mul_assoc ..
  have e2 : 7 * (n * K * a) = 7 * K * (n * a) := by
    rw [Int.mul_comm n K, Int.mul_assoc K n a, ← Int.mul_assoc]
  rw [e1, e2]
  exact h1
theorem days_most {K D n a : Int} (h : 7 * K ≤ D) (hn : 0 ≤ n) (ha : 0 ≤ a) : 7 * (n * K * a) ≤ D * n * a := by
  have h1 : 7 * K * (n * a) ≤ D * (n * a) := Int.mul_le_mul_of_nonneg_right h (Int.mul_nonneg hn ha)
  have e1 : D * n * a = D * (n * a) := Int.mul_assoc ..
  have e2 : 7 * (n * K * a) = 7 * K * (n * a) := by
    rw [Int.mul_comm n K, Int.mul_assoc K n a, ← Int.mul_assoc]
  rw [e1, e2]
  exact h1
theorem wks_days {i o b : Int} (h : 0 ≤ i ∧ o ≤ 20000 ∧ i ≤ o) : o - i + 1 ≤ 7 * wks i o b ∧ (b = 0 → 7 * wks i o b ≤ o - i + 1 + 6) := by
  unfold wks
  split
  · exact ⟨by omega, fun _ => by omega⟩
  · exact ⟨by omega, fun _ => by omega⟩
set_option maxRecDepth 100000 in
set_option maxHeartbeats 4000000 in
theorem lawDays_early (T A : Option Addr) (tn tc n c : Nat) (t : List Q4) (l : List Mv) (day : Int) (w : World) (ht : Rws Q4.cs 4 w w.heap.size T tn tc t) (h : Rws Mv.cs 4 w w.heap.size A n c l) (hh : hB t l = false ∨ checkErr t l ≠ 0 ∨ dayB day = false) :
    Calls Try.prog 10 #[.slice T tn tc, .slice A n c, .int .i64 day] w fun e w' => Below w.heap.size w w' ∧ e = .returned (.bool true) := by
  obtain ⟨b1, e1⟩ : ∃ b, hB t l = b := ⟨_, rfl⟩
  have HI : Hid (∀ W, Below w.heap.size w W → Calls Try.prog 19 #[.slice T tn tc, .slice A n c] W fun e w' => W = w' ∧ e = .returned (.bool b1)) := Lib.hid fun W hW => by
    have := hire_any T A tn tc n c _ t l W (ht.below hW (Nat.le_refl _) hW.size) (h.below hW (Nat.le_refl _) hW.size)
    rwa [e1] at this
  cases b1
  · clear ht h hh e1
    (
        go_enter Try.func10, Try.ntmps10
        go_wp2_with (first | (go_at_call 11; refine (awake_true _).mono ?_; rintro e w1 ⟨hb1, rfl⟩; have HB1 := Lib.hid hb1; clear hb1) | (go_at_call 19; with_reducible refine (HI.out _ HB1.out).mono ?_; rintro e w' ⟨rfl, rfl⟩) | (go_at_call 36; with_reducible refine (CK.out _ HB1.out).mono ?_; rintro e w2 ⟨hb2, rfl⟩; have HB2 : Hid (Below w.heap.size w w2) := Lib.hid (Below.step2 hb2 HB1.out); clear hb2) | (go_at_call 31; with_reducible refine (refIsDay_b HD.out _).mono ?_; rintro e w' ⟨rfl, rfl⟩))
        go_ret
        exact ⟨HB1.out, rfl⟩)
  obtain ⟨-, hts, -⟩ := hB_facts e1
  obtain ⟨E, hE⟩ : ∃ E, checkErr t l = E := ⟨_, rfl⟩
  have CK : Hid (∀ W, Below w.heap.size w W → Calls Try.prog 36 #[.slice T tn tc, .slice A n c] W fun e w' => Below W.heap.size W w' ∧ e = .returned (.int .i64 E)) := Lib.hid fun W hW => by
    have := refCheck_any T A tn tc n c t l W (ht.below hW (Nat.le_refl _) hW.size) (h.below hW (Nat.le_refl _) hW.size) hts
    rwa [hE] at this
  rw [e1, hE] at hh
  obtain ⟨v, hv⟩ : ∃ v, dayB day = v := ⟨_, rfl⟩
  have HD := Lib.hid hv
  rw [hv] at hh
  clear ht h hts e1 hE hv
  by_cases h0 : E = 0
  · subst h0
    cases v
    · clear hh
      (
          go_enter Try.func10, Try.ntmps10
          go_wp2_with (first | (go_at_call 11; refine (awake_true _).mono ?_; rintro e w1 ⟨hb1, rfl⟩; have HB1 := Lib.hid hb1; clear hb1) | (go_at_call 19; with_reducible refine (HI.out _ HB1.out).mono ?_; rintro e w' ⟨rfl, rfl⟩) | (go_at_call 36; with_reducible refine (CK.out _ HB1.out).mono ?_; rintro e w2 ⟨hb2, rfl⟩; have HB2 : Hid (Below w.heap.size w w2) := Lib.hid (Below.step2 hb2 HB1.out); clear hb2) | (go_at_call 31; with_reducible refine (refIsDay_b HD.out _).mono ?_; rintro e w' ⟨rfl, rfl⟩))
          go_ret
          exact ⟨HB2.out, rfl⟩)
    · simp at hh
  · have d0 : (E != 0) = true := by simpa using h0
    clear hh
    (
        go_enter Try.func10, Try.ntmps10
        go_wp2_with (first | (go_at_call 11; refine (awake_true _).mono ?_; rintro e w1 ⟨hb1, rfl⟩; have HB1 := Lib.hid hb1; clear hb1) | (go_at_call 19; with_reducible refine (HI.out _ HB1.out).mono ?_; rintro e w' ⟨rfl, rfl⟩) | (go_at_call 36; with_reducible refine (CK.out _ HB1.out).mono ?_; rintro e w2 ⟨hb2, rfl⟩; have HB2 : Hid (Below w.heap.size w w2) := Lib.hid (Below.step2 hb2 HB1.out); clear hb2) | (go_at_call 31; with_reducible refine (refIsDay_b HD.out _).mono ?_; rintro e w' ⟨rfl, rfl⟩))
        go_ret
        exact ⟨HB2.out, rfl⟩)
set_option maxRecDepth 100000 in
set_option maxHeartbeats 16000000 in
theorem lawDays_ok (T A : Option Addr) (tn tc n c : Nat) (t : List Q4) (l : List Mv) (day : Int) (w : World) (ht : Rws Q4.cs 4 w w.heap.size T tn tc t) (h : Rws Mv.cs 4 w w.heap.size A n c l) (hh : hB t l = true) (hE : checkErr t l = 0) (hd : dayB day = true) :
    Calls Try.prog 10 #[.slice T tn tc, .slice A n c, .int .i64 day] w fun e w' => Below w.heap.size w w' ∧ e = .returned (.bool true) := by
  have hg := Good.of hE
  have hday := dayB_iff.1 hd
  have HD := Lib.hid hd
  have HTL := Lib.hid ht.len
  have HLL := Lib.hid h.len
  have htn : tn ≤ 60 := by rw [← ht.len]; exact hg.tn
  have hn3 : n ≤ 300 := by rw [← h.len]; exact hg.ln
  have hcap := h.cap
  have hmax := h.max
  have hcapt := ht.cap
  have hmaxt := ht.max
  obtain ⟨-, hts, hs⟩ := hB_facts hh
  have HT0 : Hid (∀ W, Below w.heap.size w W → Rws Q4.cs 4 W W.heap.size T tn tc t) := Lib.hid fun W hW => ht.below hW (Nat.le_refl _) hW.size
  have H0 : Hid (∀ W, Below w.heap.size w W → Rws Mv.cs 4 W W.heap.size A n c l) := Lib.hid fun W hW => h.below hW (Nat.le_refl _) hW.size
  have HI : Hid (∀ W, Below w.heap.size w W → Calls Try.prog 19 #[.slice T tn tc, .slice A n c] W fun e w' => W = w' ∧ e = .returned (.bool true)) := Lib.hid fun W hW => by
    have := hire_any T A tn tc n c _ t l W (HT0.out W hW) (H0.out W hW)
    rwa [hh] at this
  have CK : Hid (∀ W, Below w.heap.size w W → Calls Try.prog 36 #[.slice T tn tc, .slice A n c] W fun e w' => Below W.heap.size W w' ∧ e = .returned (.int .i64 0)) := Lib.hid fun W hW => by
    have := refCheck_any T A tn tc n c t l W (HT0.out W hW) (H0.out W hW) hts
    rwa [hE] at this
  have TC : Hid (∀ W, Below w.heap.size w W → Calls Try.prog 22 #[.slice T tn tc] W fun e w' => Below W.heap.size W w' ∧ ∃ v, e = .returned v ∧ w'.ownsRow W.heap.size 56 4 v tn (t.flatMap Q4.cs)) := Lib.hid fun W hW =>
    terms_any T tn tc t W (HT0.out W hW) (by omega)
  have MC : Hid (∀ W, Below w.heap.size w W → Calls Try.prog 25 #[.slice A n c] W fun e w' => Below W.heap.size W w' ∧ ∃ v, e = .returned v ∧ w'.ownsRow W.heap.size 90 4 v n (l.flatMap Mv.cs)) := Lib.hid fun W hW =>
    moves_any A n c l W (H0.out W hW) (by omega)
  have hfil : l.filter (dayF day) = upM l day := hg.filter day
  have hgu := hg.up day
  have hcu : checkErr t (upM l day) = 0 := check_take hE _
  have hsu : ∀ x ∈ upM l day, x.p.size ≤ 30 := fun x hx => hs x (List.mem_of_mem_take hx)
  have HEA := Lib.hid (fun y => hg.each hday.1 (y := y))
  have hch := hg.chgs_ (l' := upM l day) day
  have hlen := lotsT_len hgu.st t
  obtain ⟨L, hL⟩ : ∃ L, upM l day = L := ⟨_, rfl⟩
  rw [hL] at hfil hgu hcu hsu HEA hch hlen
  obtain ⟨UL, hUL⟩ : ∃ UL, L.length = UL := ⟨_, rfl⟩
  have HUL := Lib.hid hUL
  have UP : Hid (∀ W, Below w.heap.size w W → Calls Try.prog 44 #[.slice A n c, .int .i64 day] W fun e w' => Below W.heap.size W w' ∧ ∃ v, e = .returned v ∧ w'.ownsRow W.heap.size 90 4 v UL (L.flatMap Mv.cs)) := Lib.hid fun W hW => by
    have := refUpto_any A n c l day W (H0.out W hW) hn3
    rwa [hfil, hUL] at this
  obtain ⟨LL, hLL⟩ : ∃ LL, lotsT t L = LL := ⟨_, rfl⟩
  obtain ⟨N, hN⟩ : ∃ N, LL.length = N := ⟨_, rfl⟩
  have HNL := Lib.hid hN
  have HCL : Hid ((LL.map (chgR day t)).length = N) := Lib.hid (by rw [List.length_map, hN])
  have LO : Hid (∀ T tc A c W, Rws Q4.cs 4 W W.heap.size T tn tc t → Rws Mv.cs 4 W W.heap.size A UL c L → Calls Try.prog 24 #[.slice T tn tc, .slice A UL c] W fun e w' => Below W.heap.size W w' ∧ ∃ v, e = .returned (.tuple #[v, .int .i64 0]) ∧ w'.ownsRow W.heap.size 54 5 v N (LL.flatMap Lt.cs)) := Lib.hid fun T tc A c W h1 h2 => by
    have := lots_ok T A tn tc UL c t L W h1 h2 hts hsu hcu hgu.st hgu.ok (by rw [← hUL]; exact hgu.ln) htn
    rwa [hLL, hN] at this
  have AC : Hid (∀ T tc A c W, Rws Q4.cs 4 W W.heap.size T tn tc t → Rws Mv.cs 4 W W.heap.size A n c l → Calls Try.prog 33 #[.slice T tn tc, .slice A n c, .int .i64 day] W fun e w' => Below W.heap.size W w' ∧ ∃ v, e = .returned (.tuple #[v, .int .i64 0]) ∧ w'.ownsRow W.heap.size 85 4 v N ((LL.map (chgR day t)).flatMap Q4.cs)) := Lib.hid fun T tc A c W h1 h2 => by
    have := account_ok T A tn tc n c t l day W h1 h2 hts hs hE hd
    rwa [hL, hch, hLL, HCL.out] at this
  rw [hLL] at HEA hlen
  have hNb : N ≤ 18000 := by
    rw [hN] at hlen
    have h5 : t.length * L.length ≤ 60 * 300 := Nat.mul_le_mul hg.tn hgu.ln
    omega
  clear ht h hh hE hd hg hgu hfil hcu hsu hch hlen hL hUL hLL hN hts hs
  go_enter Try.func10, Try.ntmps10
  go_upto_region 6 with (first | (go_at_call 11; refine (awake_true _).mono ?_; rintro e w1 ⟨hb1, rfl⟩; have HB1 := Lib.hid hb1; clear hb1) | (go_at_call 19; with_reducible refine (HI.out _ HB1.out).mono ?_; rintro e w' ⟨rfl, rfl⟩) | (go_at_call 36; with_reducible refine (CK.out _ HB1.out).mono ?_; rintro e w2 ⟨hb2, rfl⟩; have HB2 : Hid (Below w.heap.size w w2) := Lib.hid (Below.step2 hb2 HB1.out); clear hb2) | (go_at_call 31; with_reducible refine (refIsDay_b HD.out _).mono ?_; rintro e w' ⟨rfl, rfl⟩) | (go_at_call 22; with_reducible refine (TC.out _ HB2.out).mono ?_; rintro e w3 ⟨hb3, v, rfl, hown⟩; obtain ⟨T3, d3, rfl, hr⟩ := Rws.of_own hown HTL.out; have HT3 := Lib.hid hr; have HS3 : Hid (Below w2.heap.size w2 w3) := Lib.hid hb3; have HB3 : Hid (Below w.heap.size w w3) := Lib.hid (HB2.out.trans (hb3.mono HB2.out.size)); clear hown hr hb3) | (go_at_call 25; with_reducible refine (MC.out _ HB3.out).mono ?_; rintro e w4 ⟨hb4, v, rfl, hown⟩; obtain ⟨A4, d4, rfl, hr⟩ := Rws.of_own hown HLL.out; have HM4 := Lib.hid hr; have HT4 := Lib.hid (HT3.out.below hb4 (Nat.le_refl _) hb4.size); have HS4 : Hid (Below w3.heap.size w3 w4) := Lib.hid hb4; have HB4 : Hid (Below w.heap.size w w4) := Lib.hid (HB3.out.trans (hb4.mono HB3.out.size)); clear hown hr hb4) | (go_at_call 33; with_reducible refine (AC.out _ _ _ _ _ HT4.out HM4.out).mono ?_; rintro e w5 ⟨hb5, v, rfl, hown⟩; obtain ⟨A5, d5, rfl, hr⟩ := Rws.of_own hown HCL.out; have HA5 := Lib.hid hr; have HB5 : Hid (Below w.heap.size w w5) := Lib.hid (Below.step2 hb5 HB4.out); clear hown hr hb5))
  go_wp2_with (first | (go_at_call 22; with_reducible refine (TC.out _ HB5.out).mono ?_; rintro e w6 ⟨hb6, v, rfl, hown⟩; obtain ⟨T6, d6, rfl, hr⟩ := Rws.of_own hown HTL.out; have HT6 := Lib.hid hr; have HS6 : Hid (Below w5.heap.size w5 w6) := Lib.hid hb6; have HB6 : Hid (Below w.heap.size w w6) := Lib.hid (HB5.out.trans (hb6.mono HB5.out.size)); clear hown hr hb6) | (go_at_call 44; with_reducible refine (UP.out _ HB6.out).mono ?_; rintro e w7 ⟨hb7, v, rfl, hown⟩; obtain ⟨A7, d7, rfl, hr⟩ := Rws.of_own hown HUL.out; have HM7 := Lib.hid hr; have HT7 := Lib.hid (HT6.out.below hb7 (Nat.le_refl _) hb7.size); have HS7 : Hid (Below w6.heap.size w6 w7) := Lib.hid hb7; have HB7 : Hid (Below w.heap.size w w7) := Lib.hid (HB6.out.trans (hb7.mono HB6.out.size)); clear hown hr hb7) | (go_at_call 24; with_reducible refine (LO.out _ _ _ _ _ HT7.out HM7.out).mono ?_; rintro e w8 ⟨hb8, v, rfl, hown⟩; obtain ⟨A8, d8, rfl, hr⟩ := Rws.of_own hown HNL.out; have HR8 := Lib.hid hr; have HS8 : Hid (Below w7.heap.size w7 w8) := Lib.hid hb8; have HB8 : Hid (Below w.heap.size w w8) := Lib.hid (Below.step2 hb8 HB7.out); clear hown hr hb8))
  have HA8 := Lib.hid (HA5.out.below (Below.step2 HS8.out (Below.step2 HS7.out HS6.out)) (Nat.le_refl _) (Below.step2 HS8.out (Below.step2 HS7.out HS6.out)).size)
  go_loopw [11, 12, 13, 14, 15] (fun i _ _ _ _ wr => ∃ j : Nat, j ≤ N ∧ i = .int .i64 j ∧ ∃ q, wr = w8.drewN q) (fun i _ _ _ _ _ => N - (intOf i).toNat)
  case atStart => exact ⟨0, Nat.zero_le _, rfl, 0, rfl⟩
  case round =>
    obtain ⟨j, hj, rfl, q0, rfl⟩ := hrel
    have hr5 := HA8.out
    have hr8 := HR8.out
    have hcap5 := hr5.cap
    have hmax5 := hr5.max
    have hcap8 := hr8.cap
    have hmax8 := hr8.max
    by_cases hlt : j < N
    · obtain ⟨b2, o2, ⟨yp, yn, yi, yd, yo⟩, rfl, ob2, hy, e0, e1, e2, e3, e4⟩ := hr8.lt hlt
      dsimp only at e0 e1 e2 e3 e4
      obtain ⟨b3, o3, U, rfl, ob3, hu, f0, f1, f2, f3⟩ := hr5.q4 hlt
      obtain ⟨hok, k, ⟨xs, xa, xb, xc⟩, hx, hk, hix, htr, htk⟩ := HEA.out _ (List.mem_of_getElem? hy)
      dsimp only at hix htr
      rw [HTL.out] at hk
      obtain ⟨b, o, x5, rfl, hbb, hx5, c0, c1, c2, c3⟩ := (HT0.out _ HB8.out).q4 hk
      obtain rfl : x5 = ⟨xs, xa, xb, xc⟩ := by rw [hx] at hx5; exact (Option.some.inj hx5).symm
      dsimp only at c0 c1 c2 c3
      have TR : Hid (∀ W, Below w.heap.size w W → Calls Try.prog 45 #[.slice (some ⟨b, o, none⟩) tn tc, .string yp] W fun e w' => W = w' ∧ e = .returned (.int .i64 (k : Int))) := Lib.hid fun W hW => by
        have := refTerm_any _ tn tc _ t yp W (HT0.out W hW)
        rwa [hix] at this
      obtain ⟨⟨k1, k2⟩, ⟨m1, m2⟩, -⟩ := chg_bd hok hday.2 htk
      have hE := endD_ok hok hday.2
      have hnb := hok.1
      have hob := hok.2
      obtain ⟨⟨t1, t2⟩, -, t3, t4⟩ := htk
      obtain ⟨E, hEE⟩ : ∃ E, endD ⟨yp, yn, yi, yd, yo⟩ day = E := ⟨_, rfl⟩
      have HEE : Hid ((if yo = -1 then day else yd) = E) := Lib.hid hEE
      (try dsimp only at k1 k2 m1 m2 hE t1 t2 t3 t4 hnb hob)
      rw [hEE] at k1 k2 m1 m2 hE
      have hwd := wks_days (b := xb) hE
      obtain ⟨K, hK⟩ : ∃ K, wks yi E xb = K := ⟨_, rfl⟩
      have hcg : chgR day t ⟨yp, yn, yi, yd, yo⟩ = ⟨yp, yn, K, yn * (K * xa + if yo = 2 then xc else 0)⟩ := by
        unfold chgR
        dsimp only
        rw [htr]
        unfold chg
        dsimp only
        rw [hEE, hK]
      rw [hK] at k1 k2 m1 m2 hwd
      obtain rfl : U = ⟨yp, yn, K, yn * (K * xa + if yo = 2 then xc else 0)⟩ := by
        rw [List.getElem?_map, hy, Option.map_some, hcg] at hu
        exact (Option.some.inj hu).symm
      dsimp only at f0 f1 f2 f3
      have p1 := mul_bd (show 0 ≤ yn by omega) hnb.2.1 m1 m2
      have p2 := mul_bd (show 0 ≤ yn by omega) hnb.2.1 t3 t4
      rw [swap_mul] at p1
      obtain ⟨DD, hDD⟩ : ∃ D, E - yi + 1 = D := ⟨_, rfl⟩
      rw [hDD] at hwd
      have p3 := mul_bd (show 0 ≤ DD by omega) (show DD ≤ 20007 by omega) (show 0 ≤ yn by omega) hnb.2.1
      have p4 := mul_bd p3.1 p3.2 t1 t2
      have p5 := mul_bd (show 0 ≤ DD + 6 by omega) (show DD + 6 ≤ 20007 by omega) (show 0 ≤ yn by omega) hnb.2.1
      have p6 := mul_bd p5.1 p5.2 t1 t2
      have q1 := days_least hwd.1 (show 0 ≤ yn by omega) t1
      have q2 : xb = 0 → 7 * (yn * K * xa) ≤ (DD + 6) * yn * xa := fun e => days_most (hwd.2 e) (show 0 ≤ yn by omega) t1
      obtain ⟨R, hR⟩ : ∃ R, yn * K * xa = R := ⟨_, rfl⟩
      obtain ⟨P, hP⟩ : ∃ P, DD * yn = P := ⟨_, rfl⟩
      obtain ⟨Q, hQ⟩ : ∃ Q, P * xa = Q := ⟨_, rfl⟩
      obtain ⟨P6, hP6⟩ : ∃ P, (DD + 6) * yn = P := ⟨_, rfl⟩
      obtain ⟨Q6, hQ6⟩ : ∃ Q, P6 * xa = Q := ⟨_, rfl⟩
      obtain ⟨PC, hPC⟩ : ∃ Q, yn * xc = Q := ⟨_, rfl⟩
      rw [hR] at p1 q1 q2
      rw [hPC] at p2
      rw [hP] at p3 p4 q1
      rw [hP6] at p5 p6 q2
      rw [hQ] at p4 q1
      rw [hQ6] at p6 q2
      rw [Int.mul_add, swap_mul, hR] at f3
      obtain ⟨V, hV⟩ : ∃ V, R + yn * (if yo = 2 then xc else 0) = V := ⟨_, rfl⟩
      have HV : Hid (V = R + (if yo = 2 then PC else 0)) := Lib.hid (by
        rw [← hV]
        split
        · rw [hPC]
        · rw [Int.mul_zero])
      rw [hV] at f3
      have w1 : IntKind.i64.wrap (E - yi) = E - yi := IntWalk.i64_in _ (by omega)
      have w2 : IntKind.i64.wrap (E - yi + 1) = DD := (IntWalk.i64_in _ (by omega)).trans hDD
      have w3 : IntKind.i64.wrap (DD * yn) = P := by rw [hP]; exact IntWalk.i64_in _ (by omega)
      have w4 : IntKind.i64.wrap (P * xa) = Q := by rw [hQ]; exact IntWalk.i64_in _ (by omega)
      have w5 : IntKind.i64.wrap (DD + 6) = DD + 6 := IntWalk.i64_in _ (by omega)
      have w6 : IntKind.i64.wrap ((DD + 6) * yn) = P6 := by rw [hP6]; exact IntWalk.i64_in _ (by omega)
      have w7 : IntKind.i64.wrap (P6 * xa) = Q6 := by rw [hQ6]; exact IntWalk.i64_in _ (by omega)
      have w9 : IntKind.i64.wrap (yn * xc) = PC := by rw [hPC]; exact IntWalk.i64_in _ (by omega)
      obtain ⟨S7, hS7⟩ : ∃ S, 7 * R = S := ⟨_, rfl⟩
      rw [hS7] at q1 q2
      have w10 : IntKind.i64.wrap (7 * R) = S7 := by rw [hS7]; exact IntWalk.i64_in _ (by omega)
      have w11 : IntKind.i64.wrap (R + PC - PC) = R := by rw [IntWalk.i64_in _ (by omega)]; omega
      have w12 : IntKind.i64.wrap R = R := IntWalk.i64_in _ (by omega)
      have r1 : ¬ S7 < Q := by omega
      have r2 : xb = 0 → ¬ Q6 < S7 := fun e => by have := q2 e; omega
      have z1 : (0 : Int) ≤ (k : Int) := by omega
      have z2 : (k : Int) < (tn : Int) := by omega
      have z3 : (0 : Int) ≤ (j : Int) := by omega
      have z4 : (j : Int) < (N : Int) := by omega
      have z5 : ¬ (k : Int) < 0 := by omega
      clear hr5 hr8 hy hu hx hx5 hix htr hEE hK hcg hok hE k1 k2 m1 m2 p1 p2 p3 p4 p5 p6 q1 q2 t1 t2 t3 t4 hnb hwd hR hP hQ hP6 hQ6 hPC hDD hS7 hV
      go_wp2_with (go_at_call 45; with_reducible refine (TR.out _ (by have hb0 := HB8.out; exact (by repeat (first | with_reducible exact Below.refl _ _ | with_reducible assumption | with_reducible refine Below.drew ?_ | with_reducible refine Below.drewN ?_ _ | with_reducible refine Below.alloc2 ?_ _ | with_reducible refine Below.alloc ?_ (by first | omega | (simp <;> omega)) _ | with_reducible refine Below.setCell ?_ (by first | omega | (simp <;> omega)) _ | with_reducible refine Below.step2 (by with_reducible assumption) ?_ | with_reducible refine Below.step (by with_reducible assumption) ?_ (by first | omega | (simp <;> omega)))))).mono ?_; rintro e w' ⟨rfl, rfl⟩)
      go_quiet (fail)
      go_upto_if 115 with (fail)
      go_cut [13] (fun v wx => v = .int .i64 E ∧ ∃ q, wx = w8.drewN q)
      case first =>
        by_cases h1 : yo = -1
        · have e5 : day = E := by have := HEE.out; rwa [if_pos h1] at this
          subst h1
          subst e5
          go_wp2
          go_meet
          case rel => exact ⟨rfl, _, rfl⟩
        · have e5 : yd = E := by have := HEE.out; rwa [if_neg h1] at this
          have d1 : ¬ yo < 0 := by omega
          subst e5
          go_wp2
          go_meet
          case rel => exact ⟨rfl, _, rfl⟩
      case rest =>
        obtain ⟨rfl, q, rfl⟩ := hcut
        clear HEE
        go_upto_if 135 with (fail)
        go_cut [15] (fun v wx => v = .int .i64 R ∧ ∃ q, wx = w8.drewN q)
        case first =>
          by_cases h2 : yo = 2
          · obtain rfl : V = R + PC := by have := HV.out; rwa [if_pos h2] at this
            subst h2
            go_wp2
            go_quiet (fail)
            go_wp2
            go_meet
            case rel => exact ⟨rfl, _, World.drewN_drewN _ _ _⟩
          · have d2 : (yo == 2) = false := by simpa using h2
            obtain rfl : V = R := by have := HV.out; rwa [if_neg h2, Int.add_zero] at this
            go_wp2
            go_meet
            case rel => exact ⟨rfl, _, rfl⟩
        case rest =>
          obtain ⟨rfl, q2, rfl⟩ := hcut
          clear HEA TR hob w1 w2 w9 w11 e0 e1 e2 e3 e4 f3 c3
          by_cases hb0 : xb = 0
          · have r3 := r2 hb0
            subst hb0
            clear r2
            go_wp2
            go_quiet (fail)
            go_wp2
            go_roundw
            case rel => exact ⟨j + 1, by omega, by go_num, _, rfl⟩
            case measure => simp [intOf]; omega
          · have d3 : (xb == 0) = false := by simpa using hb0
            have d4 : decide (S7 < Q) = false := decide_eq_false (by omega)
            clear r2 hb0
            go_wp2
            have hs1 : ((w8.drewN q2).drew.cell? ⟨b3, o3 + j * 4 + 1, none⟩ = some (.int .i64 yn) ∧ (w8.drewN q2).drew.cell? ⟨b, o + k * 4 + 1, none⟩ = some (.int .i64 xa) ∧ (w8.drewN q2).drew.cell? ⟨b, o + k * 4 + 2, none⟩ = some (.int .i64 xb)) := ⟨f1, c1, c2⟩
            refine region_goes (n := 43) (fun w' => w'.cell? ⟨b3, o3 + j * 4 + 1, none⟩ = some (.int .i64 yn) ∧ w'.cell? ⟨b, o + k * 4 + 1, none⟩ = some (.int .i64 xa) ∧ w'.cell? ⟨b, o + k * 4 + 2, none⟩ = some (.int .i64 xb)) [] (by kernel_rfl) rfl ?_
            refine goes_takeE (i := 0) (E := []) (v := (.int .i64 R)) rfl (by kernel_rfl) rfl (fun _ _ _ h => h) (by intro w' hw'; obtain ⟨s0, s1, s2⟩ := hw'; go_simp) hs1 ?_
            refine goes_takeE (i := 1) (E := []) (v := (.int .i64 S7)) rfl (by kernel_rfl) rfl (fun _ _ _ h => h) (by intro w' hw'; obtain ⟨s0, s1, s2⟩ := hw'; go_simp) hs1 ?_
            refine goes_takeE (i := 2) (E := []) (v := (.int .i64 DD)) rfl (by kernel_rfl) rfl (fun _ _ _ h => h) (by intro w' hw'; obtain ⟨s0, s1, s2⟩ := hw'; go_simp) hs1 ?_
            refine goes_takeE (i := 3) (E := []) (v := (.slice (some ⟨b3, o3, none⟩) N d5)) rfl (by kernel_rfl) rfl (fun _ _ _ h => h) (by intro w' hw'; obtain ⟨s0, s1, s2⟩ := hw'; go_simp) hs1 ?_
            refine goes_takeE (i := 4) (E := []) (v := (.int .i64 (j : Int))) rfl (by kernel_rfl) rfl (fun _ _ _ h => h) (by intro w' hw'; obtain ⟨s0, s1, s2⟩ := hw'; go_simp) hs1 ?_
            refine goes_takeE (i := 5) (E := []) (v := (.pointer (some ⟨b3, o3 + j * 4, none⟩))) rfl (by kernel_rfl) rfl (fun _ _ _ h => h) (by intro w' hw'; obtain ⟨s0, s1, s2⟩ := hw'; go_simp) hs1 ?_
            refine goes_takeE (i := 6) (E := []) (v := (.pointer (some ⟨b3, o3 + j * 4 + 1, none⟩))) rfl (by kernel_rfl) rfl (fun _ _ _ h => h) (by intro w' hw'; obtain ⟨s0, s1, s2⟩ := hw'; go_simp) hs1 ?_
            refine goes_takeE (i := 7) (E := []) (v := (.int .i64 yn)) rfl (by kernel_rfl) rfl (fun _ _ _ h => h) (by intro w' hw'; obtain ⟨s0, s1, s2⟩ := hw'; go_simp) hs1 ?_
            refine goes_takeE (i := 8) (E := []) (v := (.int .i64 P)) rfl (by kernel_rfl) rfl (fun _ _ _ h => h) (by intro w' hw'; obtain ⟨s0, s1, s2⟩ := hw'; go_simp) hs1 ?_
            refine goes_takeE (i := 9) (E := []) (v := (.slice (some ⟨b, o, none⟩) tn tc)) rfl (by kernel_rfl) rfl (fun _ _ _ h => h) (by intro w' hw'; obtain ⟨s0, s1, s2⟩ := hw'; go_simp) hs1 ?_
            refine goes_takeE (i := 10) (E := []) (v := (.int .i64 (k : Int))) rfl (by kernel_rfl) rfl (fun _ _ _ h => h) (by intro w' hw'; obtain ⟨s0, s1, s2⟩ := hw'; go_simp) hs1 ?_
            refine goes_takeE (i := 11) (E := []) (v := (.pointer (some ⟨b, o + k * 4, none⟩))) rfl (by kernel_rfl) rfl (fun _ _ _ h => h) (by intro w' hw'; obtain ⟨s0, s1, s2⟩ := hw'; go_simp) hs1 ?_
            refine goes_takeE (i := 12) (E := []) (v := (.pointer (some ⟨b, o + k * 4 + 1, none⟩))) rfl (by kernel_rfl) rfl (fun _ _ _ h => h) (by intro w' hw'; obtain ⟨s0, s1, s2⟩ := hw'; go_simp) hs1 ?_
            refine goes_takeE (i := 13) (E := []) (v := (.int .i64 xa)) rfl (by kernel_rfl) rfl (fun _ _ _ h => h) (by intro w' hw'; obtain ⟨s0, s1, s2⟩ := hw'; go_simp) hs1 ?_
            refine goes_takeE (i := 14) (E := []) (v := (.int .i64 Q)) rfl (by kernel_rfl) rfl (fun _ _ _ h => h) (by intro w' hw'; obtain ⟨s0, s1, s2⟩ := hw'; go_simp) hs1 ?_
            refine goes_takeE (i := 15) (E := []) (v := (.bool false)) rfl (by kernel_rfl) rfl (fun _ _ _ h => h) (by intro w' hw'; obtain ⟨s0, s1, s2⟩ := hw'; go_simp) hs1 ?_
            refine goes_takeE (i := 16) (E := []) (v := (.bool false)) rfl (by kernel_rfl) rfl (fun _ _ _ h => h) (by intro w' hw'; obtain ⟨s0, s1, s2⟩ := hw'; go_simp) hs1 ?_
            refine goes_met (i := 17) (v := (.slice (some ⟨b, o, none⟩) tn tc)) rfl (by kernel_rfl) (by kernel_rfl) (fun _ _ _ h => h) (by intro w' hw'; obtain ⟨s0, s1, s2⟩ := hw'; go_simp) hs1 ?_
            refine goes_met (i := 18) (v := (.int .i64 (k : Int))) rfl (by kernel_rfl) (by kernel_rfl) (fun _ _ _ h => h) (by intro w' hw'; obtain ⟨s0, s1, s2⟩ := hw'; go_simp) hs1 ?_
            refine goes_met (i := 19) (v := (.pointer (some ⟨b, o + k * 4, none⟩))) rfl (by kernel_rfl) (by kernel_rfl) (fun _ _ _ h => h) (by intro w' hw'; obtain ⟨s0, s1, s2⟩ := hw'; go_simp) hs1 ?_
            refine goes_met (i := 20) (v := (.pointer (some ⟨b, o + k * 4 + 2, none⟩))) rfl (by kernel_rfl) (by kernel_rfl) (fun _ _ _ h => h) (by intro w' hw'; obtain ⟨s0, s1, s2⟩ := hw'; go_simp) hs1 ?_
            refine goes_met (i := 21) (v := (.int .i64 xb)) rfl (by kernel_rfl) (by kernel_rfl) (fun _ _ _ h => h) (by intro w' hw'; obtain ⟨s0, s1, s2⟩ := hw'; go_simp) hs1 ?_
            refine goes_met (i := 22) (v := (.bool false)) rfl (by kernel_rfl) (by kernel_rfl) (fun _ _ _ h => h) (by intro w' hw'; obtain ⟨s0, s1, s2⟩ := hw'; go_simp) hs1 ?_
            refine goes_met (i := 23) (v := (.bool false)) rfl (by kernel_rfl) (by kernel_rfl) (fun _ _ _ h => h) (by intro w' hw'; obtain ⟨s0, s1, s2⟩ := hw'; go_simp) hs1 ?_
            refine goes_skip (i := 24) rfl (by kernel_rfl) (by kernel_rfl) (fun _ _ _ h => h) hs1 ?_
            refine goes_skip (i := 25) rfl (by kernel_rfl) (by kernel_rfl) (fun _ _ _ h => h) hs1 ?_
            refine goes_skip (i := 26) rfl (by kernel_rfl) (by kernel_rfl) (fun _ _ _ h => h) hs1 ?_
            refine goes_skip (i := 27) rfl (by kernel_rfl) (by kernel_rfl) (fun _ _ _ h => h) hs1 ?_
            refine goes_skip (i := 28) rfl (by kernel_rfl) (by kernel_rfl) (fun _ _ _ h => h) hs1 ?_
            refine goes_skip (i := 29) rfl (by kernel_rfl) (by kernel_rfl) (fun _ _ _ h => h) hs1 ?_
            refine goes_skip (i := 30) rfl (by kernel_rfl) (by kernel_rfl) (fun _ _ _ h => h) hs1 ?_
            refine goes_skip (i := 31) rfl (by kernel_rfl) (by kernel_rfl) (fun _ _ _ h => h) hs1 ?_
            refine goes_skip (i := 32) rfl (by kernel_rfl) (by kernel_rfl) (fun _ _ _ h => h) hs1 ?_
            refine goes_skip (i := 33) rfl (by kernel_rfl) (by kernel_rfl) (fun _ _ _ h => h) hs1 ?_
            refine goes_skip (i := 34) rfl (by kernel_rfl) (by kernel_rfl) (fun _ _ _ h => h) hs1 ?_
            refine goes_skip (i := 35) rfl (by kernel_rfl) (by kernel_rfl) (fun _ _ _ h => h) hs1 ?_
            refine goes_skip (i := 36) rfl (by kernel_rfl) (by kernel_rfl) (fun _ _ _ h => h) hs1 ?_
            refine goes_skip (i := 37) rfl (by kernel_rfl) (by kernel_rfl) (fun _ _ _ h => h) hs1 ?_
            refine goes_skip (i := 38) rfl (by kernel_rfl) (by kernel_rfl) (fun _ _ _ h => h) hs1 ?_
            refine goes_skip (i := 39) rfl (by kernel_rfl) (by kernel_rfl) (fun _ _ _ h => h) hs1 ?_
            refine goes_skip (i := 40) rfl (by kernel_rfl) (by kernel_rfl) (fun _ _ _ h => h) hs1 ?_
            refine goes_met (i := 41) (v := (.bool false)) rfl (by kernel_rfl) (by kernel_rfl) (fun _ _ _ h => h) (by intro w' hw'; obtain ⟨s0, s1, s2⟩ := hw'; go_simp) hs1 ?_
            refine goes_call (i := 42) rfl (by kernel_rfl) ?_
            go_wp2
            refine behind_ok ⟨hs1, ?_⟩
            refine goes_done (by kernel_rfl) ?_
            go_wp2
            go_roundw
            case rel => exact ⟨j + 1, by omega, by go_num, _, rfl⟩
            case measure => simp [intOf]; omega
    · go_wp2
      go_ret
      have hb0 := HB8.out
      exact ⟨(by repeat (first | with_reducible exact Below.refl _ _ | with_reducible assumption | with_reducible refine Below.drew ?_ | with_reducible refine Below.drewN ?_ _ | with_reducible refine Below.alloc2 ?_ _ | with_reducible refine Below.alloc ?_ (by first | omega | (simp <;> omega)) _ | with_reducible refine Below.setCell ?_ (by first | omega | (simp <;> omega)) _ | with_reducible refine Below.step2 (by with_reducible assumption) ?_ | with_reducible refine Below.step (by with_reducible assumption) ?_ (by first | omega | (simp <;> omega)))), rfl⟩

end Go.Proofs.Ytbeijeblbchglaa
