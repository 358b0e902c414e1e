/- The law RecordMoves, where terms and moves are right. -/
import Derived.Test.YtechchkobmffgaaLawMoves9
namespace Go.Proofs.Ytechchkobmffgaa
open Go.RowKit Go.WideShapes Go.Deep

theorem scanG_pos (p : ByteArray) (f e i : Int) : ∀ (gs : List Mv) (w : Int), ∀ x ∈ scanG p f e i w gs, 0 ≤ x.n
  | [], w, x, hx => by
    rw [scanG] at hx
    split at hx
    · rename_i h0
      obtain rfl := List.mem_singleton.1 hx
      exact Int.le_of_lt h0
    · cases hx
  | g :: r, w, x, hx => by
    rw [scanG] at hx
    rcases List.mem_append.1 hx with hx | hx
    · split at hx
      · rename_i h0
        obtain rfl := List.mem_singleton.1 hx
        exact Int.le_of_lt h0
      · cases hx
    · exact scanG_pos p f e i r _ x hx
theorem refG_pos (p : ByteArray) (w : Int) (gs : List Mv) : ∀ (hs : List Lt) (c : Int), ∀ x ∈ refG p w gs c hs, 0 ≤ x.n
  | [], _, x, hx => by cases hx
  | y :: ys, c, x, hx => by
    rw [refG] at hx
    rcases List.mem_append.1 hx with hx | hx
    · exact scanG_pos p _ _ _ gs w x hx
    · exact refG_pos p w gs ys _ x hx
theorem lotsT_pos (t : List Q4) (l : List Mv) : ∀ x ∈ lotsT t l, 0 ≤ x.n := fun x hx => by
  obtain ⟨y, -, h⟩ := List.mem_flatMap.1 hx
  rw [lotsR, refL_dels] at h
  exact refG_pos _ _ _ _ _ x h
theorem psum_nn (q : ByteArray) : ∀ {L : List Lt}, (∀ x ∈ L, 0 ≤ x.n) → 0 ≤ psum q L
  | [], _ => by simp [psum]
  | x :: L, h => by
    have h1 := h x (List.mem_cons_self ..)
    have h2 := psum_nn q fun y hy => h y (List.mem_cons_of_mem _ hy)
    rw [psum_cons]
    split <;> omega
theorem psum_take (q : ByteArray) {L : List Lt} (h : ∀ x ∈ L, 0 ≤ x.n) (k : Nat) : 0 ≤ psum q (L.take k) ∧ psum q (L.take k) ≤ psum q L := by
  have h1 := psum_nn q (L := L.take k) fun x hx => h x (List.mem_of_mem_take hx)
  have h2 := psum_nn q (L := L.drop k) fun x hx => h x (List.mem_of_mem_drop hx)
  have e : psum q L = psum q (L.take k) + psum q (L.drop k) := by rw [← psum_app, List.take_append_drop]
  omega
theorem index_zero (a b c : Value) (W : World) : (Instr.index 57 (.agg #[a, b, c]) (.int .i64 0)).run Try.prog W = .ok a W := by kernel_rfl
set_option maxRecDepth 100000 in
set_option maxHeartbeats 8000000 in
theorem lawMoves_ok (T A : Option Addr) (tn tc n c : Nat) (t : List Q4) (l : List Mv) (w : World) (ht : Rws Q4.cs 4 w w.heap.size T tn tc t) (h : Rws Mv.cs 4 w w.heap.size A n c l) (hh : hB t l = true) (hE : checkErr t l = 0) :
    Calls Try.prog 5 #[.slice T tn tc, .slice A n c] w fun e w' => Below w.heap.size w w' ∧ e = .returned (.bool true) := by
  have HTL := Lib.hid ht.len
  have HLL := Lib.hid h.len
  obtain ⟨hlen, hts, hs⟩ := hB_facts hh
  rw [HTL.out, HLL.out] at hlen
  have hcap := h.cap
  have hmax := h.max
  have hcapt := ht.cap
  have hmaxt := ht.max
  have HT0 : Hid (∀ W, Below w.heap.size w W → Rws Q4.cs 4 W W.heap.size T tn tc t) := fun W hW => ht.below hW (Nat.le_refl _) hW.size
  have H0 : Hid (∀ W, Below w.heap.size w W → Rws Mv.cs 4 W W.heap.size A n c l) := fun W hW => h.below hW (Nat.le_refl _) hW.size
  have HI : Hid (∀ W, Below w.heap.size w W → Calls Try.prog 19 #[.slice T tn tc, .slice A n c] W fun e w' => W = w' ∧ e = .returned (.bool true)) := Lib.hid fun W hW => by
    have := hire_any T A tn tc n c _ t l W (HT0.out W hW) (H0.out W hW)
    rwa [hh] at this
  have TC : Hid (∀ W, Below w.heap.size w W → Calls Try.prog 22 #[.slice T tn tc] W fun e w' => Below W.heap.size W w' ∧ ∃ v, e = .returned v ∧ w'.ownsRow W.heap.size 56 4 v tn (t.flatMap Q4.cs)) := Lib.hid fun W hW =>
    terms_any T tn tc t W (HT0.out W hW) (by omega)
  have MC : Hid (∀ W, Below w.heap.size w W → Calls Try.prog 25 #[.slice A n c] W fun e w' => Below W.heap.size W w' ∧ ∃ v, e = .returned v ∧ w'.ownsRow W.heap.size 90 4 v n (l.flatMap Mv.cs)) := Lib.hid fun W hW =>
    moves_any A n c l W (H0.out W hW) (by omega)
  have hF : termErr t = 0 := Classical.byContradiction fun q => by
    rw [checkErr, if_neg q] at hE
    exact q hE
  have hG : moveErr t l = 0 := by rwa [checkErr, if_pos hF] at hE
  have hst : ∀ p, stOk p l := fun p => stOk_of hG p
  obtain ⟨hn3, hgo⟩ := moveErr_go hG
  have hn : n ≤ 300 := by rw [← HLL.out]; exact hn3
  have htg : tn ≤ 60 ∧ tGo [] t = 0 := by
    unfold termErr at hF
    split at hF
    · cases hF
    · rw [← HTL.out]
      exact ⟨by omega, hF⟩
  have hok : l.all okM = true := List.all_eq_true.2 fun m hm => by
    obtain ⟨k, hk, rfl⟩ := List.mem_iff_getElem.1 hm
    obtain ⟨-, b, d, -⟩ := mE_zero (moves_each hgo (List.getElem?_eq_getElem hk))
    unfold okM
    rw [b, d]
    rfl
  have RCT : Hid (∀ W, Below w.heap.size w W → Calls Try.prog 20 #[.slice T tn tc] W fun e w' => Below W.heap.size W w' ∧ e = .returned (.int .i64 0)) := Lib.hid fun W hW => by
    have := refCheckTerms_any T tn tc t W (HT0.out W hW) hts
    rwa [hF] at this
  have CT : Hid (∀ T tc W, Rws Q4.cs 4 W W.heap.size T tn tc t → Calls Try.prog 21 #[.slice T tn tc] W fun e w' => Below W.heap.size W w' ∧ e = .returned (.int .i64 0)) := Lib.hid fun T tc W hW => by
    have := checkTerms_any T tn tc t W hW hts
    rwa [hF] at this
  have CMV : Hid (∀ T tc A c W, Rws Q4.cs 4 W W.heap.size T tn tc t → Rws Mv.cs 4 W W.heap.size A n c l → Calls Try.prog 26 #[.slice T tn tc, .slice A n c] W fun e w' => Below W.heap.size W w' ∧ e = .returned (.int .i64 0)) := Lib.hid fun T tc A c W h1 h2 => by
    have := checkMoves_any A T n c tn tc t l W h1 h2 hts hs
    rwa [hE] at this
  have RCM : Hid (∀ W, Below w.heap.size w W → Calls Try.prog 23 #[.slice T tn tc, .slice A n c] W fun e w' => Below W.heap.size W w' ∧ e = .returned (.int .i64 0)) := Lib.hid fun W hW => by
    have := refCheckMoves_any A T n c tn tc t l W (HT0.out W hW) (H0.out W hW)
    rwa [hG] at this
  obtain ⟨N, hN⟩ : ∃ N, (lotsT t l).length = N := ⟨_, rfl⟩
  have HNL := Lib.hid hN
  have hNb : N ≤ 20000 := by
    have h1 := lotsT_len hst t
    rw [hN, HTL.out, HLL.out] at h1
    have h5 : tn * n ≤ 60 * 300 := Nat.mul_le_mul htg.1 hn
    omega
  have LOK : Hid (∀ T tc A c W, Rws Q4.cs 4 W W.heap.size T tn tc t → Rws Mv.cs 4 W W.heap.size A n c l → Calls Try.prog 24 #[.slice T tn tc, .slice A n c] W fun e w' => Below W.heap.size W w' ∧ ∃ v, e = .returned (.tuple #[v, .int .i64 0]) ∧ w'.ownsRow W.heap.size 54 5 v N ((lotsT t l).flatMap Lt.cs)) := Lib.hid fun T tc A c W h1 h2 => by
    have := lots_ok T A tn tc n c t l W h1 h2 hts hs hE hst hok hn htg.1
    rwa [hN] at this
  have RLO : Hid (∀ W, Below w.heap.size w W → Calls Try.prog 28 #[.slice T tn tc, .slice A n c] W fun e w' => Below W.heap.size W w' ∧ ∃ v, e = .returned v ∧ w'.ownsRow W.heap.size 54 5 v N ((lotsT t l).flatMap Lt.cs)) := Lib.hid fun W hW => by
    have := refLots_any T A tn tc n c t l W (HT0.out W hW) (H0.out W hW) hst hok hn htg.1
    rwa [hN] at this
  have CNT : Hid (∀ p W, Below w.heap.size w W → Calls Try.prog 29 #[.slice A n c, .string p] W fun e w' => Below W.heap.size W w' ∧ e = .returned (.agg #[.int .i64 (cnt 0 l p), .int .i64 (cnt 1 l p), .int .i64 (cnt 2 l p)])) := Lib.hid fun p W hW =>
    counts_any A n c l p W (H0.out W hW) hok hn
  have HSUM : Hid (∀ (k : Nat) (x : Q4), t[k]? = some x → psum x.s (lotsT t l) = cnt 0 l x.s) := Lib.hid fun k x hx => lotsT_sum hst htg.2 hx
  have HPT : Hid (∀ q k, 0 ≤ psum q ((lotsT t l).take k) ∧ psum q ((lotsT t l).take k) ≤ psum q (lotsT t l)) := Lib.hid fun q k => psum_take q (lotsT_pos t l) k
  have HCB : Hid (∀ p, cnt 0 l p ≤ 30000000) := Lib.hid fun p => by
    have := (cnt_bd l 0 p hok).2
    rw [HLL.out] at this
    omega
  clear ht h hh hE hF hG hts hs hst hgo htg hok hN hn3
  go_enter Try.func5, Try.ntmps5
  go_upto_region 6 with (first | (go_at_call 11; refine (awake_true _).mono ?_; rintro e w1 ⟨hb1, rfl⟩; have HB1 := Lib.hid hb1; clear hb1) | (go_at_call 19; refine (HI.out _ HB1.out).mono ?_; rintro e w' ⟨rfl, rfl⟩) | (go_at_call 20; refine (RCT.out _ HB1.out).mono ?_; rintro e w2 ⟨hb2, rfl⟩; have HB2 : Hid (Below w.heap.size w w2) := Lib.hid (HB1.out.trans (hb2.mono HB1.out.size)); clear hb2))
  go_upto_region 10 with (first | (go_at_call 22; refine (TC.out _ HB2.out).mono ?_; rintro e w3 ⟨hb3, v, rfl, hown⟩; obtain ⟨T3, d3, rfl, hr⟩ := Rws.of_own hown HTL.out; have HT3 := Lib.hid hr; have HS3 : Hid (Below w2.heap.size w2 w3) := Lib.hid hb3; have HB3 : Hid (Below w.heap.size w w3) := Lib.hid (HB2.out.trans (hb3.mono HB2.out.size)); clear hown hr hb3) | (go_at_call 21; refine (CT.out _ _ _ HT3.out).mono ?_; rintro e w4 ⟨hb4, rfl⟩; have HB4 : Hid (Below w.heap.size w w4) := Lib.hid (HB3.out.trans (hb4.mono HB3.out.size)); clear hb4) | (go_at_call 23; refine (RCM.out _ HB4.out).mono ?_; rintro e w5 ⟨hb5, rfl⟩; have HB5 : Hid (Below w.heap.size w w5) := Lib.hid (HB4.out.trans (hb5.mono HB4.out.size)); clear hb5))
  go_upto_region 11 with (first | (go_at_call 22; refine (TC.out _ HB5.out).mono ?_; rintro e w6 ⟨hb6, v, rfl, hown⟩; obtain ⟨T6, d6, rfl, hr⟩ := Rws.of_own hown HTL.out; have HT6 := Lib.hid hr; have HS6 : Hid (Below w5.heap.size w5 w6) := Lib.hid hb6; have HB6 : Hid (Below w.heap.size w w6) := Lib.hid (HB5.out.trans (hb6.mono HB5.out.size)); clear hown hr hb6) | (go_at_call 25; refine (MC.out _ HB6.out).mono ?_; rintro e w7 ⟨hb7, v, rfl, hown⟩; obtain ⟨A7, d7, rfl, hr⟩ := Rws.of_own hown HLL.out; have HM7 := Lib.hid hr; have HT7 := Lib.hid (HT6.out.below hb7 (Nat.le_refl _) hb7.size); have HS7 : Hid (Below w6.heap.size w6 w7) := Lib.hid hb7; have HB7 : Hid (Below w.heap.size w w7) := Lib.hid (HB6.out.trans (hb7.mono HB6.out.size)); clear hown hr hb7) | (go_at_call 24; refine (LOK.out _ _ _ _ _ HT7.out HM7.out).mono ?_; rintro e w8 ⟨hb8, v, rfl, hown⟩; obtain ⟨L8, l8, rfl, hr⟩ := Rws.of_own hown HNL.out; have HR8 := Lib.hid hr; have HB8 : Hid (Below w.heap.size w w8) := Lib.hid (HB7.out.trans (hb8.mono HB7.out.size)); clear hown hr hb8))
  go_wp2_with (first | (go_at_call 22; refine (TC.out _ HB8.out).mono ?_; rintro e w9 ⟨hb9, v, rfl, hown⟩; obtain ⟨T9, d9, rfl, hr⟩ := Rws.of_own hown HTL.out; have HT9 := Lib.hid hr; have HS9 : Hid (Below w8.heap.size w8 w9) := Lib.hid hb9; have HB9 : Hid (Below w.heap.size w w9) := Lib.hid (HB8.out.trans (hb9.mono HB8.out.size)); clear hown hr hb9) | (go_at_call 25; refine (MC.out _ HB9.out).mono ?_; rintro e w10 ⟨hb10, v, rfl, hown⟩; obtain ⟨A10, d10, rfl, hr⟩ := Rws.of_own hown HLL.out; have HM10 := Lib.hid hr; have HT10 := Lib.hid (HT9.out.below hb10 (Nat.le_refl _) hb10.size); have HS10 : Hid (Below w9.heap.size w9 w10) := Lib.hid hb10; have HB10 : Hid (Below w.heap.size w w10) := Lib.hid (HB9.out.trans (hb10.mono HB9.out.size)); clear hown hr hb10) | (go_at_call 26; refine (CMV.out _ _ _ _ _ HT10.out HM10.out).mono ?_; rintro e w11 ⟨hb11, rfl⟩; have HS11 : Hid (Below w10.heap.size w10 w11) := Lib.hid hb11; have HB11 : Hid (Below w.heap.size w w11) := Lib.hid (HB10.out.trans (hb11.mono HB10.out.size)); clear hb11) | (go_at_call 28; refine (RLO.out _ HB11.out).mono ?_; rintro e w12 ⟨hb12, v, rfl, hown⟩; obtain ⟨L12, l12, rfl, hr⟩ := Rws.of_own hown HNL.out; have HR12 := Lib.hid hr; have HC12 : Hid (Below w8.heap.size w8 w12) := Lib.hid (Below.step2 hb12 (Below.step2 HS11.out (Below.step2 HS10.out HS9.out))); have HB12 : Hid (Below w.heap.size w w12) := Lib.hid (HB11.out.trans (hb12.mono HB11.out.size)); clear hown hr hb12) | (go_at_call 27; refine (sameLots_eq L8 L12 _ l8 l12 _ w12 (HR8.out.below HC12.out (Nat.le_refl _) HC12.out.size) HR12.out).mono ?_; rintro e w13 ⟨hb13, rfl⟩; have HC13 : Hid (Below w8.heap.size w8 w13) := Lib.hid (Below.step2 hb13 HC12.out); have HB13 : Hid (Below w.heap.size w w13) := Lib.hid (HB12.out.trans (hb13.mono HB12.out.size)); clear hb13))
  go_loopw [8, 9, 10] (fun i _ _ wr => ∃ k : Nat, k ≤ tn ∧ i = .int .i64 k ∧ Below w.heap.size w wr ∧ Below w8.heap.size w8 wr) (fun i _ _ _ => tn - (intOf i).toNat)
  case atStart => exact ⟨0, Nat.zero_le _, rfl, HB13.out, HC13.out⟩
  case round =>
    obtain ⟨k, hk, rfl, hb, hc⟩ := hrel
    have HB := Lib.hid hb
    have HC := Lib.hid hc
    by_cases hlt : k < tn
    · obtain ⟨b, o, ⟨xs, xa, xb, xc⟩, rfl, hbb, hx, c0, c1, c2, c3⟩ := (HT0.out _ hb).q4 hlt
      have HX := Lib.hid hx
      have hsum := HSUM.out k _ hx
      have hcb := HCB.out xs
      dsimp only at c0 c1 c2 c3 hsum
      obtain ⟨C, hC⟩ : ∃ C, cnt 0 l xs = C := ⟨_, rfl⟩
      have CNX : Hid (∀ W, Below w.heap.size w W → Calls Try.prog 29 #[.slice A n c, .string xs] W fun e w' => Below W.heap.size W w' ∧ e = .returned (.agg #[.int .i64 C, .int .i64 (cnt 1 l xs), .int .i64 (cnt 2 l xs)])) := Lib.hid fun W hW => by
        have := CNT.out xs W hW
        rwa [hC] at this
      rw [hC] at hsum hcb
      have HSM := Lib.hid hsum
      have z1 : (0 : Int) ≤ (k : Int) := by omega
      have z2 : (k : Int) < (tn : Int) := by omega
      clear hx hb hc hC hsum
      go_wp2
      go_loopw [9, 10] (fun s j wi => ∃ (S : Int) (q : Nat), q ≤ N ∧ j = .int .i64 (q : Int) ∧ s = .int .i64 S ∧ Hid (S = psum xs ((lotsT t l).take q)) ∧ Below w.heap.size w wi ∧ Below w8.heap.size w8 wi) (fun _ j _ => N - (intOf j).toNat)
      case atStart => exact ⟨0, 0, Nat.zero_le _, rfl, rfl, Lib.hid (by simp [psum]), HB.out, HC.out⟩
      case round =>
        obtain ⟨S, q, hq, rfl, rfl, HS, hbi, hci⟩ := hrel
        have HBI := Lib.hid hbi
        have HCI := Lib.hid hci
        obtain ⟨b5, o5, x5, e5, hb5, hx5, c0, c1, c2, c3⟩ := (HT0.out _ hbi).q4 hlt
        injection e5 with e5
        injection e5 with e5 e6
        subst e5; subst e6
        obtain rfl : x5 = ⟨xs, xa, xb, xc⟩ := by rw [HX.out] at hx5; exact (Option.some.inj hx5).symm
        dsimp only at c0 c1 c2 c3
        clear hx5 hbi
        by_cases hqn : q < N
        · have hrows := HR8.out.below hci (Nat.le_refl _) (Nat.le_refl _)
          have hcap8 := hrows.cap
          have hmax8 := hrows.max
          obtain ⟨b2, o2, ⟨yp, yn, yi, yd, yo⟩, e2, hbb2, hy, d0, d1, d2, d3, d4⟩ := hrows.lt hqn
          subst e2
          dsimp only at d0 d1 d2 d3 d4
          have hstep := psum_step (q := xs) hy
          have hpt := HPT.out xs (q + 1)
          have hpt0 := HPT.out xs q
          rw [HSM.out] at hpt hpt0
          rw [← HS.out] at hstep hpt0
          dsimp only at hstep
          have y1 : (0 : Int) ≤ (q : Int) := by omega
          have y2 : (q : Int) < (N : Int) := by omega
          obtain ⟨u, hu⟩ : ∃ u, (yp.toList == xs.toList) = u := ⟨_, rfl⟩
          have hU : eqS yp xs = u := hu
          rw [hU] at hstep
          clear hy hci hrows hU
          cases u
          · have HST := Lib.hid hstep
            clear hstep hpt
            go_wp2
            go_quiet (fail)
            go_wp2
            go_roundw
            case rel =>
              have hb0 := HBI.out
              have hb1 := HCI.out
              exact ⟨S, q + 1, by omega, by go_num, rfl, Lib.hid (by have := HST.out; simp at this; exact this.symm), (by repeat (first | with_reducible exact Below.refl _ _ | with_reducible assumption | with_reducible refine Below.drew ?_ | with_reducible refine Below.drewN ?_ _ | with_reducible refine Below.alloc2 ?_ _ | with_reducible refine Below.alloc ?_ (by first | omega | (simp <;> omega)) _ | with_reducible refine Below.setCell ?_ (by first | omega | (simp <;> omega)) _ | with_reducible refine Below.step2 (by with_reducible assumption) ?_ | with_reducible refine Below.step (by with_reducible assumption) ?_ (by first | omega | (simp <;> omega)))), (by repeat (first | with_reducible exact Below.refl _ _ | with_reducible assumption | with_reducible refine Below.drew ?_ | with_reducible refine Below.drewN ?_ _ | with_reducible refine Below.alloc2 ?_ _ | with_reducible refine Below.alloc ?_ (by first | omega | (simp <;> omega)) _ | with_reducible refine Below.setCell ?_ (by first | omega | (simp <;> omega)) _ | with_reducible refine Below.step2 (by with_reducible assumption) ?_ | with_reducible refine Below.step (by with_reducible assumption) ?_ (by first | omega | (simp <;> omega))))⟩
            case measure => simp [intOf]; omega
          · have hstep2 : psum xs ((lotsT t l).take (q + 1)) = S + yn := by simpa using hstep
            rw [hstep2] at hpt
            have HST := Lib.hid hstep2
            have hw5 : IntKind.i64.wrap (S + yn) = S + yn := IntWalk.i64_in _ (by omega)
            clear hstep hstep2
            go_wp2
            go_quiet (fail)
            go_wp2
            go_roundw
            case rel =>
              have hb0 := HBI.out
              have hb1 := HCI.out
              exact ⟨S + yn, q + 1, by omega, by go_num, by go_num, Lib.hid HST.out.symm, (by repeat (first | with_reducible exact Below.refl _ _ | with_reducible assumption | with_reducible refine Below.drew ?_ | with_reducible refine Below.drewN ?_ _ | with_reducible refine Below.alloc2 ?_ _ | with_reducible refine Below.alloc ?_ (by first | omega | (simp <;> omega)) _ | with_reducible refine Below.setCell ?_ (by first | omega | (simp <;> omega)) _ | with_reducible refine Below.step2 (by with_reducible assumption) ?_ | with_reducible refine Below.step (by with_reducible assumption) ?_ (by first | omega | (simp <;> omega)))), (by repeat (first | with_reducible exact Below.refl _ _ | with_reducible assumption | with_reducible refine Below.drew ?_ | with_reducible refine Below.drewN ?_ _ | with_reducible refine Below.alloc2 ?_ _ | with_reducible refine Below.alloc ?_ (by first | omega | (simp <;> omega)) _ | with_reducible refine Below.setCell ?_ (by first | omega | (simp <;> omega)) _ | with_reducible refine Below.step2 (by with_reducible assumption) ?_ | with_reducible refine Below.step (by with_reducible assumption) ?_ (by first | omega | (simp <;> omega))))⟩
            case measure => simp [intOf]; omega
        · have eS : S = C := by
            have := HS.out
            rw [List.take_of_length_le (by rw [HNL.out]; omega), HSM.out] at this
            exact this
          subst eS
          clear hci
          have hidx := fun (W : World) => index_zero (.int .i64 S) (.int .i64 (cnt 1 l xs)) (.int .i64 (cnt 2 l xs)) W
          go_wp2_with (go_at_call 29; refine (CNX.out _ HBI.out).mono ?_; rintro e w14 ⟨hb14, rfl⟩; have HB14 : Hid (Below w.heap.size w w14) := Lib.hid (HBI.out.trans (hb14.mono HBI.out.size)); have HC14 : Hid (Below w8.heap.size w8 w14) := Lib.hid (Below.step2 hb14 HCI.out); clear hb14)
          refine ⟨⟨k + 1, by omega, by go_num, HB14.out, HC14.out⟩, by simp [intOf]; omega⟩
    · go_wp2
      go_ret
      exact ⟨HB.out, rfl⟩
theorem lawMoves_any (T A : Option Addr) (tn tc n c : Nat) (t : List Q4) (l : List Mv) (w : World) (ht : Rws Q4.cs 4 w w.heap.size T tn tc t) (h : Rws Mv.cs 4 w w.heap.size A n c l) :
    Calls Try.prog 5 #[.slice T tn tc, .slice A n c] w fun e w' => Below w.heap.size w w' ∧ e = .returned (.bool true) := by
  by_cases hh : hB t l = true
  · by_cases hE : checkErr t l = 0
    · exact lawMoves_ok T A tn tc n c t l w ht h hh hE
    · exact lawMoves_bad T A tn tc n c t l w ht h hh hE
  · exact lawMoves_not T A tn tc n c t l w ht h (by simpa using hh)

end Go.Proofs.Ytechchkobmffgaa
