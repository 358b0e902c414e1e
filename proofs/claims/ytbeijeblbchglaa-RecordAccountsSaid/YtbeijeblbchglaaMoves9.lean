/- Chapter 9, walks: CheckMoves of the program. -/
import Derived.Test.YtbeijeblbchglaaMove9
import Derived.Test.YtbeijeblbchglaaLine
import Derived.Deep.DeepCutAuto
namespace Go.Proofs.Ytbeijeblbchglaa
open Go.RowKit Go.Maps

theorem mE_zero {t : List Q4} {seen : List Mv} {x : Mv} (h : mE t seen x = 0) : dayB x.d = true ∧ inR 0 2 x.k = true ∧ inR 1 100000 x.n = true ∧ ¬ x.d < lastD seen ∧ hasT t x.p = true ∧ ¬ stock seen x.p + gn x < 0 := by
  unfold mE mEr at h
  cases h1 : dayB x.d <;> cases h2 : inR 0 2 x.k <;> cases h3 : inR 1 100000 x.n <;> simp only [h1, h2, h3, Bool.and_true, Bool.and_false, Bool.and_self, Bool.false_eq_true, if_false, if_true] at h
  all_goals first
    | (exact absurd h (by decide))
    | skip
  by_cases h4 : x.d < lastD seen
  · simp [h4] at h
  · cases h5 : hasT t x.p
    · simp [h4, h5] at h
    · by_cases h6 : stock seen x.p + gn x < 0
      · simp [h4, h5, h6] at h
      · exact ⟨rfl, rfl, rfl, h4, rfl, h6⟩
/-- What is on hire of each part that has a term. -/
def hm0 (t : List Q4) (q : ByteArray) : Option Int := if hasT t q then some 0 else none
def hmv (t : List Q4) (l : List Mv) (q : ByteArray) : Option Int := if hasT t q then some (stock l q) else none
theorem hm0_step {l : List Q4} {k : Nat} {x : Q4} (hx : l[k]? = some x) : (fun q => if q = x.s then some 0 else hm0 (l.take k) q) = hm0 (l.take (k + 1)) := by
  funext q
  unfold hm0
  rw [← hasT_step hx]
  by_cases h : q = x.s
  · simp [h]
  · simp [h]
theorem hmv_start (t : List Q4) : hm0 t = hmv t [] := by
  funext q
  simp [hm0, hmv, stock]
theorem hmv_step {t : List Q4} {l : List Mv} {k : Nat} {x : Mv} (hx : l[k]? = some x) (ht : hasT t x.p = true) : (fun q => if q = x.p then some (stock (l.take k) x.p + gn x) else hmv t (l.take k) q) = hmv t (l.take (k + 1)) := by
  funext q
  unfold hmv
  rw [stock_step hx]
  by_cases h : q = x.p
  · subst h
    rw [if_pos rfl, if_pos ht, eqS_iff.2 rfl]
    rfl
  · rw [if_neg h, eqS_not.2 (Ne.symm h)]
    simp
theorem hmv_err (t : List Q4) (l : List Mv) (x : Mv) : mEr (dayB x.d) (inR 0 2 x.k) (inR 1 100000 x.n) (decide (x.d < lastD l)) (hmv t l x.p).isSome (decide ((hmv t l x.p).getD 0 + gn x < 0)) = mE t l x := by
  unfold mE hmv
  cases hasT t x.p
  · simp [mEr]
  · simp
theorem gn_bd {x : Mv} (h : inR 1 100000 x.n = true) : -100000 ≤ gn x ∧ gn x ≤ 100000 := by
  have := inR_iff.1 h
  unfold gn
  split <;> omega
def bdM (l : List Mv) (k : Nat) : Prop := ∀ q, 0 ≤ stock l q ∧ stock l q ≤ 100000 * (k : Int)
theorem bdM_step {t : List Q4} {l : List Mv} {k : Nat} {x : Mv} (hx : l[k]? = some x) (h : bdM (l.take k) k) (he : mE t (l.take k) x = 0) : bdM (l.take (k + 1)) (k + 1) := fun q => by
  obtain ⟨-, -, h3, -, -, h6⟩ := mE_zero he
  have hg := gn_bd h3
  have hq := h q
  rw [stock_step hx]
  cases hqx : eqS x.p q
  · simp
    omega
  · rw [eqS_iff] at hqx
    subst hqx
    simp
    omega
set_option maxRecDepth 100000 in
set_option maxHeartbeats 16000000 in
theorem checkMoves_any (A T : Option Addr) (n c tn tc : Nat) (t : List Q4) (l : List Mv) (w : World) (ht : Rws Q4.cs 4 w w.heap.size T tn tc t) (h : Rws Mv.cs 4 w w.heap.size A n c l) (hts : ∀ x ∈ t, x.s.size ≤ 30) (hs : ∀ x ∈ l, x.p.size ≤ 30) :
    Calls Try.prog 26 #[.slice T tn tc, .slice A n c] w fun e w' => Below w.heap.size w w' ∧ e = .returned (.int .i64 (checkErr t l)) := by
  have hcap := h.cap
  have hmax := h.max
  have hcapt := ht.cap
  have hmaxt := ht.max
  have HLEN := Lib.hid h.len
  have HLEN2 := Lib.hid ht.len
  have HS := Lib.hid hs
  have HS2 := Lib.hid hts
  have H : Hid (∀ w', Below w.heap.size w w' → Rws Mv.cs 4 w' w.heap.size A n c l) := fun w' hb => h.below hb (Nat.le_refl _) (Nat.le_refl _)
  have H2 : Hid (∀ w', Below w.heap.size w w' → Rws Q4.cs 4 w' w.heap.size T tn tc t) := fun w' hb => ht.below hb (Nat.le_refl _) (Nat.le_refl _)
  obtain ⟨E, hE⟩ : ∃ E, termErr t = E := ⟨_, rfl⟩
  have CT : Hid (∀ W, Below w.heap.size w W → Calls Try.prog 21 #[.slice T tn tc] W fun e w' => Below W.heap.size W w' ∧ e = .returned (.int .i64 E)) := Lib.hid fun W hW => by
    have := checkTerms_any T tn tc t W (ht.below hW (Nat.le_refl _) hW.size) hts
    rwa [hE] at this
  obtain ⟨R, hR⟩ : ∃ R, checkErr t l = R := ⟨_, rfl⟩
  have HR0 := Lib.hid hR
  have HE := Lib.hid hE
  rw [hR]
  clear hR h hs ht hts hE
  by_cases h0 : E = 0
  rotate_left
  · obtain rfl : R = E := by rw [← HR0.out, checkErr, HE.out, if_neg h0]
    have h0b : (R != 0) = true := by simpa using h0
    go_enter Try.func26, Try.ntmps26
    go_wp2_with (go_at_call 21; with_reducible refine (CT.out w (Below.refl _ _)).mono ?_; rintro e wT ⟨hbT, rfl⟩; have oT := hbT.size; have HBT := Lib.hid hbT; clear hbT)
    go_ret
    exact ⟨HBT.out, rfl⟩
  subst h0
  by_cases hbig : 300 < n
  · obtain rfl : R = 8 := by rw [← HR0.out, checkErr, HE.out, if_pos rfl, moveErr, HLEN.out, if_pos hbig]
    go_enter Try.func26, Try.ntmps26
    go_wp2_with (go_at_call 21; with_reducible refine (CT.out w (Below.refl _ _)).mono ?_; rintro e wT ⟨hbT, rfl⟩; have oT := hbT.size; have HBT := Lib.hid hbT; clear hbT)
    go_ret
    exact ⟨HBT.out, rfl⟩
  have HR : Hid (mGo t [] l = R) := Lib.hid (by rw [← HR0.out, checkErr, HE.out, if_pos rfl, moveErr, HLEN.out, if_neg hbig])
  have htn : tn ≤ 60 := by
    rcases Nat.lt_or_ge 60 tn with h | h
    · have := HE.out
      rw [termErr, HLEN2.out, if_pos h] at this
      cases this
    · exact h
  have hmm := @run_makeMap Try.prog
  go_enter Try.func26, Try.ntmps26
  go_wp2_with (go_at_call 21; with_reducible refine (CT.out w (Below.refl _ _)).mono ?_; rintro e wT ⟨hbT, rfl⟩; have oT := hbT.size; have HBT := Lib.hid hbT; clear hbT)
  go_loopw [8, 24] (fun _ i wr => ∃ k : Nat, k ≤ tn ∧ i = .int .i64 k ∧ IntMap wr Try.prog 9 3 strV strOk wT.heap.size k (hm0 (t.take k)) ∧ Below w.heap.size w wr) (fun _ i _ => tn - (intOf i).toNat)
  case atStart => exact ⟨0, Nat.zero_le _, rfl, IntMap.made wT, by have hb0 := HBT.out; exact (by repeat (first | with_reducible exact Below.refl _ _ | with_reducible assumption | with_reducible refine Below.drew ?_ | with_reducible refine Below.drewN ?_ _ | with_reducible refine Below.alloc2 ?_ _ | with_reducible refine Below.alloc ?_ (by first | omega | (simp <;> omega)) _ | with_reducible refine Below.setCell ?_ (by first | omega | (simp <;> omega)) _ | with_reducible refine Below.step2 (by with_reducible assumption) ?_ | with_reducible refine Below.step (by with_reducible assumption) ?_ (by first | omega | (simp <;> omega))))⟩
  case round =>
    obtain ⟨k, hk, rfl, hm, hb⟩ := hrel
    have HB := Lib.hid hb
    have HM := Lib.hid hm
    have ow := hb.size
    have og := hm.lt
    clear hm
    by_cases hlt : k < tn
    · obtain ⟨b, o, ⟨xs, xa, xb, xc⟩, rfl, hbb, hx, c0, c1, c2, c3⟩ := (H2.out _ hb).q4 hlt
      dsimp only at c0 c1 c2 c3
      have hxs : xs.size ≤ 30 := HS2.out _ (List.mem_of_getElem? hx)
      have HSO : Hid (strOk xs) := Lib.hid (by unfold strOk; omega)
      have HSP := Lib.hid (hm0_step hx)
      have ob : b < wr.heap.size := by omega
      clear hx hb
      go_wp2_with (at_mapUpdate; refine wpList_put_int rfl _ _ _ rfl str_keys Try.underlying108 Try.underlying3 rfl (HM.out.alloc _) (by unfold maxLen; omega) xs 0 HSO.out (by decide) rfl rfl ?_; intro w3 hm3 hg3; have HM3 := Lib.hid hm3; have HG3 := Lib.hid hg3; clear hm3 hg3)
      go_roundw
      case rel =>
        have hb0 := HB.out
        refine ⟨k + 1, by omega, by go_num, ?_, ?_⟩
        · have := HM3.out
          rw [HSP.out] at this
          exact this
        · exact Below.grown_ (D := w.heap.size) (by exact (by repeat (first | with_reducible exact Below.refl _ _ | with_reducible assumption | with_reducible refine Below.drew ?_ | with_reducible refine Below.drewN ?_ _ | with_reducible refine Below.alloc2 ?_ _ | with_reducible refine Below.alloc ?_ (by first | omega | (simp <;> omega)) _ | with_reducible refine Below.setCell ?_ (by first | omega | (simp <;> omega)) _ | with_reducible refine Below.step2 (by with_reducible assumption) ?_ | with_reducible refine Below.step (by with_reducible assumption) ?_ (by first | omega | (simp <;> omega))))) HG3.out (by simp; omega) (fun q hq => by cases hq; omega)
      case measure => simp [intOf]; omega
    obtain rfl : tn = k := by omega
    have HM0 : Hid (IntMap wr Try.prog 9 3 strV strOk wT.heap.size (tn + 0) (hmv t [])) := Lib.hid (by
      have := HM.out
      rw [List.take_of_length_le (by rw [HLEN2.out]; omega), hmv_start] at this
      exact this)
    obtain ⟨wq, rfl⟩ : ∃ x, x = wr := ⟨_, rfl⟩
    have HBQ := Lib.hid hb
    clear HM hb HB
    go_wp2
    go_loopw [9, 11, 12, 34] (fun d _ _ i wr => ∃ k : Nat, k ≤ n ∧ i = .int .i64 k ∧ d = .int .i64 (lastD (l.take k)) ∧ Hid (mGo t [] l = mGo t (l.take k) (l.drop k)) ∧ Hid (bdM (l.take k) k) ∧ IntMap wr Try.prog 9 3 strV strOk wT.heap.size (tn + k) (hmv t (l.take k)) ∧ Below w.heap.size w wr) (fun _ _ _ i _ => n - (intOf i).toNat)
    case atStart => exact ⟨0, Nat.zero_le _, rfl, rfl, Lib.hid rfl, Lib.hid (fun q => by simp [stock]), HM0.out, HBQ.out⟩
    case round =>
      obtain ⟨k, hk, rfl, rfl, HV, HBD, hm, hb⟩ := hrel
      have HB := Lib.hid hb
      have HM := Lib.hid hm
      have ow := hb.size
      have og := hm.lt
      clear hm
      by_cases hlt : k < n
      · obtain ⟨b, o, ⟨xd, xk, xp, xn⟩, rfl, hbb, hx, c0, c1, c2, c3⟩ := (H.out _ hb).mv hlt
        dsimp only at c0 c1 c2 c3
        have HX := Lib.hid hx
        have hxs : xp.size ≤ 30 := HS.out _ (List.mem_of_getElem? hx)
        have HSO : Hid (strOk xp) := Lib.hid (by unfold strOk; omega)
        obtain ⟨F, hF⟩ : ∃ F, mE t (l.take k) ⟨xd, xk, xp, xn⟩ = F := ⟨_, rfl⟩
        have HF := Lib.hid hF
        obtain ⟨D, hD⟩ : ∃ D, lastD (l.take k) = D := ⟨_, rfl⟩
        have ME : Hid (∀ W, IntMap W Try.prog 9 3 strV strOk wT.heap.size (tn + k) (hmv t (l.take k)) → Calls Try.prog 61 #[.agg #[.int .i64 xd, .int .i64 xk, .string xp, .int .i64 xn], .int .i64 D, .map (some wT.heap.size)] W fun e w' => Below W.heap.size W w' ∧ e = .returned (.int .i64 F)) := Lib.hid fun W hW => by
          have := moveError_any xd xk xn D xp _ _ _ W hW (by omega) (fun s hs => by
            unfold hmv at hs
            split at hs
            · cases hs
              have := HBD.out xp
              omega
            · cases hs)
          rw [← hD, hmv_err t (l.take k) ⟨xd, xk, xp, xn⟩, hF] at this
          rwa [hD] at this
        have HD := Lib.hid hD
        have ob : b < wr.heap.size := by omega
        rw [hD]
        clear hx hb hF hD
        by_cases hf0 : F = 0
        · subst hf0
          obtain ⟨f1, f2, f3, f4, f5, f6⟩ := mE_zero HF.out
          have hbd := HBD.out xp
          obtain ⟨G, hG⟩ : ∃ G, gn ⟨xd, xk, xp, xn⟩ = G := ⟨_, rfl⟩
          have hg := gn_bd f3
          have hn3 := inR_iff.1 f3
          have HSP := Lib.hid (hmv_step HX.out f5)
          have HF5 : Hid (hmv t (l.take k) xp = some (stock (l.take k) xp)) := Lib.hid (by unfold hmv; rw [if_pos f5])
          obtain ⟨S0, hS0⟩ : ∃ S, stock (l.take k) xp = S := ⟨_, rfl⟩
          dsimp only at f6 hn3 HSP
          rw [hS0] at hbd HF5 f6 HSP
          rw [hG] at hg f6 HSP
          have GA : Hid (∀ W, Calls Try.prog 62 #[.agg #[.int .i64 xd, .int .i64 xk, .string xp, .int .i64 xn]] W fun e w' => Below W.heap.size W w' ∧ e = .returned (.int .i64 G)) := Lib.hid fun W => by
            have := gain_any xd xk xn xp (by omega) W
            rwa [hG] at this
          have LK : Hid (∀ W, IntMap W Try.prog 9 3 strV strOk wT.heap.size (tn + k) (hmv t (l.take k)) → (Instr.lookup 108 (.map (some wT.heap.size)) (.string xp) false).run Try.prog W = .ok (.int .i64 S0) W) := Lib.hid fun W hW => by
            have := hW.look str_keys Try.underlying108 Try.underlying3 (zero_int _) (x := xp) HSO.out
            rw [HF5.out] at this
            exact this
          have hw6 : IntKind.i64.wrap (S0 + G) = S0 + G := IntWalk.i64_in _ (by omega)
          have HNX := Lib.hid (mGo_next HX.out HV.out HF.out)
          have HBN := Lib.hid (bdM_step HX.out HBD.out HF.out)
          have HLD := Lib.hid (lastD_step HX.out)
          clear f1 f2 f3 f4 f5 hG hS0
          go_upto_region 19 with (go_at_call 61; with_reducible refine (ME.out _ (HM.out.alloc _)).mono ?_; rintro e w1 ⟨hb1, rfl⟩; have hk1 : Bk w1 wr.heap.size 90 #[.int .i64 xd, .int .i64 xk, .string xp, .int .i64 xn] := (by repeat (first | with_reducible assumption | with_reducible exact Bk.at_ (by first | (simp; done) | omega) | with_reducible refine Bk.alloc ?_ _ | with_reducible refine Bk.drew ?_ | with_reducible refine Bk.drewN ?_ _ | with_reducible refine Bk.step (by with_reducible assumption) ?_ (by first | omega | (simp <;> omega)))); have hl1 := hk1.lt; have oz1 := hb1.size; (try simp at oz1); have HK1 := Lib.hid hk1; have HM1 := Lib.hid ((HM.out.alloc _).below hb1); have HB1 : Hid (Below w.heap.size w w1) := Lib.hid (by have hb0 := HB.out; exact (by repeat (first | with_reducible exact Below.refl _ _ | with_reducible assumption | with_reducible refine Below.drew ?_ | with_reducible refine Below.drewN ?_ _ | with_reducible refine Below.alloc2 ?_ _ | with_reducible refine Below.alloc ?_ (by first | omega | (simp <;> omega)) _ | with_reducible refine Below.setCell ?_ (by first | omega | (simp <;> omega)) _ | with_reducible refine Below.step2 (by with_reducible assumption) ?_ | with_reducible refine Below.step (by with_reducible assumption) ?_ (by first | omega | (simp <;> omega))))); clear hb1)
          obtain ⟨q0, q1, q2, q3⟩ := HK1.out.fourc
          refine region_goes (n := 8) (fun w' => ((w'.cell? ⟨wr.heap.size, 0, none⟩ = some (.int .i64 xd) ∧ w'.cell? ⟨wr.heap.size, 1, none⟩ = some (.int .i64 xk) ∧ w'.cell? ⟨wr.heap.size, 2, none⟩ = some (.string xp) ∧ w'.cell? ⟨wr.heap.size, 3, none⟩ = some (.int .i64 xn)) ∧ (Instr.lookup 108 (.map (some wT.heap.size)) (.string xp) false).run Try.prog w' = .ok (.int .i64 S0) w')) [7] (by kernel_rfl) rfl ?_
          have HS1 : Hid (∀ W, Below w1.heap.size w1 W → ((W.cell? ⟨wr.heap.size, 0, none⟩ = some (.int .i64 xd) ∧ W.cell? ⟨wr.heap.size, 1, none⟩ = some (.int .i64 xk) ∧ W.cell? ⟨wr.heap.size, 2, none⟩ = some (.string xp) ∧ W.cell? ⟨wr.heap.size, 3, none⟩ = some (.int .i64 xn)) ∧ (Instr.lookup 108 (.map (some wT.heap.size)) (.string xp) false).run Try.prog W = .ok (.int .i64 S0) W)) := Lib.hid fun W hW => ⟨((HK1.out.below hW HK1.out.lt)).fourc, LK.out W (HM1.out.below hW)⟩
          have hs1 := HS1.out w1.drew ((Below.refl _ _).drew)
          refine goes_takeE (i := 0) (E := [3, 6, 7]) (v := .map (some wT.heap.size)) rfl (by kernel_rfl) rfl (fun _ _ _ h => h) (by intro w' hw'; go_simp) hs1 ?_
          refine goes_takeE (i := 1) (E := [2, 3, 6, 7]) (v := .pointer (some ⟨wr.heap.size, 2, none⟩)) rfl (by kernel_rfl) rfl (fun _ _ _ h => h) (by intro w' hw'; go_simp) hs1 ?_
          refine goes_takeE (i := 2) (E := [3, 6, 7]) (v := .string xp) rfl (by kernel_rfl) rfl (fun _ _ _ h => h) (by intro w' hw'; obtain ⟨⟨z0, z1, z2, z3⟩, zl⟩ := hw'; go_simp) hs1 ?_
          refine goes_takeE (i := 3) (E := [6, 7]) (v := .int .i64 S0) rfl (by kernel_rfl) rfl (fun _ _ _ h => h) (by intro w' hw'; obtain ⟨⟨z0, z1, z2, z3⟩, zl⟩ := hw'; go_simp) hs1 ?_
          refine goes_takeE (i := 4) (E := [5, 6, 7]) (v := .agg #[.int .i64 xd, .int .i64 xk, .string xp, .int .i64 xn]) rfl (by kernel_rfl) rfl (fun _ _ _ h => h) (by intro w' hw'; obtain ⟨⟨z0, z1, z2, z3⟩, zl⟩ := hw'; go_simp) hs1 ?_
          refine goes_call (i := 5) rfl (by kernel_rfl) ?_
          go_wp2_with (go_at_call 62; go_loud (with_reducible refine (GA.out _).mono ?_; rintro e w2 ⟨hb2, rfl⟩); have hb12 : Below w1.heap.size w1 w2 := ((Below.refl _ w1).drew).trans hb2; have HB12 := Lib.hid hb12; have HB2 : Hid (Below w.heap.size w w2) := Lib.hid (by have hb0 := HB1.out; exact (by repeat (first | with_reducible exact Below.refl _ _ | with_reducible assumption | with_reducible refine Below.drew ?_ | with_reducible refine Below.drewN ?_ _ | with_reducible refine Below.alloc2 ?_ _ | with_reducible refine Below.alloc ?_ (by first | omega | (simp <;> omega)) _ | with_reducible refine Below.setCell ?_ (by first | omega | (simp <;> omega)) _ | with_reducible refine Below.step2 (by with_reducible assumption) ?_ | with_reducible refine Below.step (by with_reducible assumption) ?_ (by first | omega | (simp <;> omega))))); clear hb2 hb12)
          have hs2 := HS1.out w2 HB12.out
          refine behind_ok ⟨hs2, ?_⟩
          refine goes_takeE (i := 6) (E := [7]) (v := .int .i64 (S0 + G)) rfl (by kernel_rfl) rfl (fun _ _ _ h => h) (by intro w' hw'; go_simp) hs2 ?_
          refine goes_last (i := 7) rfl (by kernel_rfl) (by kernel_rfl) ?_
          refine wpList_put_int rfl _ _ _ rfl str_keys Try.underlying108 Try.underlying3 rfl (HM1.out.below HB12.out) (by unfold maxLen; omega) xp (S0 + G) HSO.out (WalkArith.wf_i64 (by omega)) rfl rfl ?_
          intro w3 hm3 hg3
          have HM3 := Lib.hid hm3
          have HG3 := Lib.hid hg3
          have hk2 : Bk w2 wr.heap.size 90 #[.int .i64 xd, .int .i64 xk, .string xp, .int .i64 xn] := HK1.out.below HB12.out HK1.out.lt
          have hk3 : Bk w3 wr.heap.size 90 #[.int .i64 xd, .int .i64 xk, .string xp, .int .i64 xn] := (hg3.block _ hk2.lt (by simp; omega)).trans hk2
          clear hm3 hg3
          go_wp2
          refine behind_ok (goes_done (by kernel_rfl) ?_)
          obtain ⟨r0, r1, r2, r3⟩ := hk3.fourc
          go_wp2
          go_roundw
          case rel =>
            have hb0 := HB2.out
            refine ⟨k + 1, by omega, by go_num, by rw [HLD.out], HNX, HBN, ?_, ?_⟩
            · have := HM3.out
              rw [HSP.out] at this
              exact this
            · exact Below.grown_ (D := w.heap.size) (by exact (by repeat (first | with_reducible exact Below.refl _ _ | with_reducible assumption | with_reducible refine Below.drew ?_ | with_reducible refine Below.drewN ?_ _ | with_reducible refine Below.alloc2 ?_ _ | with_reducible refine Below.alloc ?_ (by first | omega | (simp <;> omega)) _ | with_reducible refine Below.setCell ?_ (by first | omega | (simp <;> omega)) _ | with_reducible refine Below.step2 (by with_reducible assumption) ?_ | with_reducible refine Below.step (by with_reducible assumption) ?_ (by first | omega | (simp <;> omega))))) HG3.out hb0.size (fun q hq => by cases hq; omega)
          case measure => simp [intOf]; omega
        · have hf0b : (F != 0) = true := by simpa using hf0
          go_wp2_with (go_at_call 61; with_reducible refine (ME.out _ (HM.out.alloc _)).mono ?_; rintro e w1 ⟨hb1, rfl⟩; have hk1 : Bk w1 wr.heap.size 90 #[.int .i64 xd, .int .i64 xk, .string xp, .int .i64 xn] := (by repeat (first | with_reducible assumption | with_reducible exact Bk.at_ (by first | (simp; done) | omega) | with_reducible refine Bk.alloc ?_ _ | with_reducible refine Bk.drew ?_ | with_reducible refine Bk.drewN ?_ _ | with_reducible refine Bk.step (by with_reducible assumption) ?_ (by first | omega | (simp <;> omega)))); have hl1 := hk1.lt; have oz1 := hb1.size; (try simp at oz1); have HK1 := Lib.hid hk1; have HM1 := Lib.hid ((HM.out.alloc _).below hb1); have HB1 : Hid (Below w.heap.size w w1) := Lib.hid (by have hb0 := HB.out; exact (by repeat (first | with_reducible exact Below.refl _ _ | with_reducible assumption | with_reducible refine Below.drew ?_ | with_reducible refine Below.drewN ?_ _ | with_reducible refine Below.alloc2 ?_ _ | with_reducible refine Below.alloc ?_ (by first | omega | (simp <;> omega)) _ | with_reducible refine Below.setCell ?_ (by first | omega | (simp <;> omega)) _ | with_reducible refine Below.step2 (by with_reducible assumption) ?_ | with_reducible refine Below.step (by with_reducible assumption) ?_ (by first | omega | (simp <;> omega))))); clear hb1)
          go_ret
          refine ⟨HB1.out, ret_int ?_⟩
          rw [← HR.out]
          exact (mGo_bad HX.out HV.out HF.out hf0).symm
      · go_wp2
        go_ret
        refine ⟨HB.out, ret_int ?_⟩
        rw [← HR.out]
        exact (mGo_end (by rw [HLEN.out]; omega) HV.out).symm

end Go.Proofs.Ytbeijeblbchglaa
