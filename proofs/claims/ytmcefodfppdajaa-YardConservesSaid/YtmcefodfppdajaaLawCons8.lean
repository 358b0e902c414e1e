/- Chapter 8: the law YardConserves, walked. -/
import Derived.Test.YtmcefodfppdajaaConsM8
namespace Go.Proofs.Ytmcefodfppdajaa
open Go.RowKit Go.Deep

theorem rws_alloc {α : Type} {f : α → List Value} {size : Nat} {w : World} {A : Option Addr} {n c : Nat} {l : List α} (h : Rws f size w w.heap.size A n c l) (o : Obj) : Rws f size (w.alloc o) (w.alloc o).heap.size A n c l :=
  h.below ((Below.refl _ _).alloc (Nat.le_refl _) o) (Nat.le_refl _) (by simp)
set_option maxRecDepth 100000 in
set_option maxHeartbeats 32000000 in
theorem lawCons_any (A : Option Addr) (n ca : Nat) (l : List Q4) (x : Mo) (part : ByteArray) (w : World) (h : Rws Q4.cs 4 w w.heap.size A n ca l) :
    Calls Try.prog 6 #[.slice A n ca, .agg #[.string x.p, .int .i64 x.f, .int .i64 x.t, .int .i64 x.b, .int .i64 x.a, .int .i64 x.n], .string part] w fun e w' => Below w.heap.size w w' ∧ e = .returned (.bool true) := by
  have hcap := h.cap
  have hmax := h.max
  have H : Hid (∀ w', Below w.heap.size w w' → Rws Q4.cs 4 w' w'.heap.size A n ca l) := Lib.hid fun w' hb => h.below hb (Nat.le_refl _) hb.size
  obtain ⟨p, f, t, b, a, m⟩ := x
  dsimp only
  have HB0 : Hid (Below w.heap.size w (w.alloc (.cells #[.string p, .int .i64 f, .int .i64 t, .int .i64 b, .int .i64 a, .int .i64 m] 41))) := Lib.hid (by repeat (first | with_reducible exact Below.refl _ _ | with_reducible assumption | with_reducible refine Below.drew ?_ | with_reducible refine Below.drewN ?_ _ | with_reducible refine Below.alloc2 ?_ _ | with_reducible refine Below.alloc ?_ (by first | omega | (simp <;> omega)) _ | with_reducible refine Below.setCell ?_ (by first | omega | (simp <;> omega)) _ | with_reducible refine Below.step2 (by with_reducible assumption) ?_ | with_reducible refine Below.step (by with_reducible assumption) ?_ (by first | omega | (simp <;> omega))))
  have HX0 : Hid (Bk (w.alloc (.cells #[.string p, .int .i64 f, .int .i64 t, .int .i64 b, .int .i64 a, .int .i64 m] 41)) w.heap.size 41 #[.string p, .int .i64 f, .int .i64 t, .int .i64 b, .int .i64 a, .int .i64 m]) := Lib.hid (Bk.at_ rfl)
  obtain ⟨S, hS⟩ : ∃ S, shortB l = S := ⟨_, rfl⟩
  have SH : Hid (∀ W, Below w.heap.size w W → Calls Try.prog 13 #[.slice A n ca] W fun e w' => Below W.heap.size W w' ∧ e = .returned (.bool S)) := Lib.hid fun W hW => by rw [← hS]; exact short_any A n ca l W (H.out W hW)
  have RC := True.intro
  cases S
  · clear h hS
    go_enter Try.func6, Try.ntmps6
    go_wp2_with (first | (go_at_call 12; with_reducible refine (awake_true _).mono ?_; rintro e w1 ⟨hb1, rfl⟩; have HB1 : Hid (Below w.heap.size w w1) := Lib.hid (HB0.out.trans (hb1.mono HB0.out.size)); have HX1 := Lib.hid (HX0.out.below hb1 HX0.out.lt); clear hb1) | (go_at_call 13; go_loud (with_reducible refine (SH.out _ HB1.out).mono ?_; rintro e w2 ⟨hb2, rfl⟩; have HB2 : Hid (Below w.heap.size w w2) := Lib.hid (HB1.out.trans (hb2.mono HB1.out.size)); have HX2 := Lib.hid (HX1.out.below hb2 HX1.out.lt); obtain ⟨x0, x1, x2, x3, x4, x5⟩ := HX2.out.sixc; clear hb2)) | (go_at_call 17; go_loud (with_reducible refine (RC.out _ HB2.out).mono ?_; rintro e w3 ⟨hb3, rfl⟩; have HB3 : Hid (Below w.heap.size w w3) := Lib.hid (HB2.out.trans (hb3.mono HB2.out.size)); have HX3 := Lib.hid (HX2.out.below hb3 HX2.out.lt); obtain ⟨x0, x1, x2, x3, x4, x5⟩ := HX3.out.sixc; clear hb3)))
    go_ret
    first | exact ⟨HB3.out, rfl⟩ | exact ⟨HB2.out, rfl⟩
  obtain ⟨-, hs⟩ := shortB_iff.1 hS
  have HSZ := Lib.hid hs
  clear h hS hs RC
  obtain ⟨E, hE⟩ : ∃ E, stockErr l = E := ⟨_, rfl⟩
  have RC : Hid (∀ W, Below w.heap.size w W → Calls Try.prog 17 #[.slice A n ca] W fun e w' => Below W.heap.size W w' ∧ e = .returned (.int .i64 E)) := Lib.hid fun W hW => by rw [← hE]; exact refCheck_any A n ca l W (H.out W hW) HSZ.out
  by_cases hp : p.size ≤ 30
  rotate_left
  · have hp' : (30 : Int) < (p.size : Int) := by omega
    clear hE
    go_enter Try.func6, Try.ntmps6
    go_wp2_with (first | (go_at_call 12; with_reducible refine (awake_true _).mono ?_; rintro e w1 ⟨hb1, rfl⟩; have HB1 : Hid (Below w.heap.size w w1) := Lib.hid (HB0.out.trans (hb1.mono HB0.out.size)); have HX1 := Lib.hid (HX0.out.below hb1 HX0.out.lt); clear hb1) | (go_at_call 13; go_loud (with_reducible refine (SH.out _ HB1.out).mono ?_; rintro e w2 ⟨hb2, rfl⟩; have HB2 : Hid (Below w.heap.size w w2) := Lib.hid (HB1.out.trans (hb2.mono HB1.out.size)); have HX2 := Lib.hid (HX1.out.below hb2 HX1.out.lt); obtain ⟨x0, x1, x2, x3, x4, x5⟩ := HX2.out.sixc; clear hb2)) | (go_at_call 17; go_loud (with_reducible refine (RC.out _ HB2.out).mono ?_; rintro e w3 ⟨hb3, rfl⟩; have HB3 : Hid (Below w.heap.size w w3) := Lib.hid (HB2.out.trans (hb3.mono HB2.out.size)); have HX3 := Lib.hid (HX2.out.below hb3 HX2.out.lt); obtain ⟨x0, x1, x2, x3, x4, x5⟩ := HX3.out.sixc; clear hb3)))
    go_ret
    first | exact ⟨HB3.out, rfl⟩ | exact ⟨HB2.out, rfl⟩
  have hp' : ¬ (30 : Int) < (p.size : Int) := by omega
  by_cases hpt : part.size ≤ 30
  rotate_left
  · have hpt' : (30 : Int) < (part.size : Int) := by omega
    clear hE
    go_enter Try.func6, Try.ntmps6
    go_wp2_with (first | (go_at_call 12; with_reducible refine (awake_true _).mono ?_; rintro e w1 ⟨hb1, rfl⟩; have HB1 : Hid (Below w.heap.size w w1) := Lib.hid (HB0.out.trans (hb1.mono HB0.out.size)); have HX1 := Lib.hid (HX0.out.below hb1 HX0.out.lt); clear hb1) | (go_at_call 13; go_loud (with_reducible refine (SH.out _ HB1.out).mono ?_; rintro e w2 ⟨hb2, rfl⟩; have HB2 : Hid (Below w.heap.size w w2) := Lib.hid (HB1.out.trans (hb2.mono HB1.out.size)); have HX2 := Lib.hid (HX1.out.below hb2 HX1.out.lt); obtain ⟨x0, x1, x2, x3, x4, x5⟩ := HX2.out.sixc; clear hb2)) | (go_at_call 17; go_loud (with_reducible refine (RC.out _ HB2.out).mono ?_; rintro e w3 ⟨hb3, rfl⟩; have HB3 : Hid (Below w.heap.size w w3) := Lib.hid (HB2.out.trans (hb3.mono HB2.out.size)); have HX3 := Lib.hid (HX2.out.below hb3 HX2.out.lt); obtain ⟨x0, x1, x2, x3, x4, x5⟩ := HX3.out.sixc; clear hb3)))
    go_ret
    first | exact ⟨HB3.out, rfl⟩ | exact ⟨HB2.out, rfl⟩
  have hpt' : ¬ (30 : Int) < (part.size : Int) := by omega
  by_cases h0 : E = 0
  rotate_left
  · have hq : (E != 0) = true := by simpa using h0
    clear hE h0
    go_enter Try.func6, Try.ntmps6
    go_wp2_with (first | (go_at_call 12; with_reducible refine (awake_true _).mono ?_; rintro e w1 ⟨hb1, rfl⟩; have HB1 : Hid (Below w.heap.size w w1) := Lib.hid (HB0.out.trans (hb1.mono HB0.out.size)); have HX1 := Lib.hid (HX0.out.below hb1 HX0.out.lt); clear hb1) | (go_at_call 13; go_loud (with_reducible refine (SH.out _ HB1.out).mono ?_; rintro e w2 ⟨hb2, rfl⟩; have HB2 : Hid (Below w.heap.size w w2) := Lib.hid (HB1.out.trans (hb2.mono HB1.out.size)); have HX2 := Lib.hid (HX1.out.below hb2 HX1.out.lt); obtain ⟨x0, x1, x2, x3, x4, x5⟩ := HX2.out.sixc; clear hb2)) | (go_at_call 17; go_loud (with_reducible refine (RC.out _ HB2.out).mono ?_; rintro e w3 ⟨hb3, rfl⟩; have HB3 : Hid (Below w.heap.size w w3) := Lib.hid (HB2.out.trans (hb3.mono HB2.out.size)); have HX3 := Lib.hid (HX2.out.below hb3 HX2.out.lt); obtain ⟨x0, x1, x2, x3, x4, x5⟩ := HX3.out.sixc; clear hb3)))
    go_ret
    first | exact ⟨HB3.out, rfl⟩ | exact ⟨HB2.out, rfl⟩
  subst h0
  have HP := Lib.hid hp
  obtain ⟨Z, hZ⟩ : ∃ Z, mvErr (cntS l) ⟨p, f, t, b, a, m⟩ = Z := ⟨_, rfl⟩
  have hmr : (mvsR (cntS l) [⟨p, f, t, b, a, m⟩]).1 = Z := by
    rw [← hZ, mvsR]
    split
    · rename_i e; rw [e]; rfl
    · rfl
  by_cases hz0 : Z = 0
  rotate_left
  · have M1 : Hid (∀ W, Below w.heap.size w W → Calls Try.prog 28 #[.slice A n ca, .agg #[.string p, .int .i64 f, .int .i64 t, .int .i64 b, .int .i64 a, .int .i64 m]] W fun e w' => Below W.heap.size W w' ∧ ∃ A3 c3, e = .returned (.tuple #[.slice A3 0 c3, .int .i64 Z]) ∧ Rws Q4.cs 4 w' w'.heap.size A3 0 c3 []) := Lib.hid fun W hW => by
      refine (move1_ok A n ca l ⟨p, f, t, b, a, m⟩ W (H.out W hW) HSZ.out hE HP.out).mono ?_
      rintro e w' ⟨hb', A3, c3, L, rfl, ho, hr⟩
      obtain rfl := ho.2 (by rw [hmr]; exact hz0)
      exact ⟨hb', A3, c3, by rw [hZ]; rfl, hr⟩
    have hq : (Z != 0) = true := by simpa using hz0
    clear hE hZ hmr hz0
    go_enter Try.func6, Try.ntmps6
    go_wp2_with (first
      | (go_at_call 12; with_reducible refine (awake_true _).mono ?_; rintro e w1 ⟨hb1, rfl⟩; have HB1 : Hid (Below w.heap.size w w1) := Lib.hid (HB0.out.trans (hb1.mono HB0.out.size)); have HX1 := Lib.hid (HX0.out.below hb1 HX0.out.lt); clear hb1)
      | (go_at_call 13; go_loud (with_reducible refine (SH.out _ HB1.out).mono ?_; rintro e w2 ⟨hb2, rfl⟩; have HB2 : Hid (Below w.heap.size w w2) := Lib.hid (HB1.out.trans (hb2.mono HB1.out.size)); have HX2 := Lib.hid (HX1.out.below hb2 HX1.out.lt); obtain ⟨x0, x1, x2, x3, x4, x5⟩ := HX2.out.sixc; clear hb2))
      | (go_at_call 17; go_loud (with_reducible refine (RC.out _ HB2.out).mono ?_; rintro e w3 ⟨hb3, rfl⟩; have HB3 : Hid (Below w.heap.size w w3) := Lib.hid (HB2.out.trans (hb3.mono HB2.out.size)); have HX3 := Lib.hid (HX2.out.below hb3 HX2.out.lt); obtain ⟨x0, x1, x2, x3, x4, x5⟩ := HX3.out.sixc; clear hb3))
      | (go_at_call 28; go_loud (with_reducible refine (M1.out _ HB3.out).mono ?_; rintro e w4 ⟨hb4, A4, c4, rfl, hr4⟩; have HB4 : Hid (Below w.heap.size w w4) := Lib.hid (HB3.out.trans (hb4.mono HB3.out.size)); have HX4 := Lib.hid (HX3.out.below hb4 HX3.out.lt); obtain ⟨x0, x1, x2, x3, x4, x5⟩ := HX4.out.sixc; have hc4 := hr4.cap; have hm4 := hr4.max; clear hr4; clear hb4)))
    go_ret
    exact ⟨HB4.out, rfl⟩
  subst hz0
  obtain ⟨hE0, hno, hmf⟩ := mvErr_zero hZ
  have HE0 := Lib.hid hE0
  have hg := good_stock HSZ.out hE
  have hl1 : l.length ≤ 1000 := by have := (stock_all hE).1; omega
  have hpos := hg.pos hl1
  have hfin := mvC_fin hg.fin hp hE0
  have hmp := mvC_pos hpos hg.fin hp hZ
  have hRnf : NF (nzL (putM ⟨p, f, t, b, a, m⟩ (foldL l))) (mvC (cntS l) ⟨p, f, t, b, a, m⟩) := by
    have h2 := nzL_nf (putM_asc (x := ⟨p, f, t, b, a, m⟩) (foldL_asc l))
    exact ⟨h2.asc, h2.nz, fun k => by rw [h2.cnt, putM_cnt (fun q => foldL_c q)]⟩
  obtain ⟨R, hR⟩ : ∃ R, nzL (putM ⟨p, f, t, b, a, m⟩ (foldL l)) = R := ⟨_, rfl⟩
  rw [hR] at hRnf
  have hRS := nf_stock hRnf (fin8_move (fin8_stock HSZ.out hE) hp hE0) hfin (fun k => ⟨(hmp.1 k).1, hmp.2 k⟩) hmf
  have HRS := Lib.hid hRS
  have M1 : Hid (∀ W, Below w.heap.size w W → Calls Try.prog 28 #[.slice A n ca, .agg #[.string p, .int .i64 f, .int .i64 t, .int .i64 b, .int .i64 a, .int .i64 m]] W fun e w' => Below W.heap.size W w' ∧ ∃ A3 c3, e = .returned (.tuple #[.slice A3 R.length c3, .int .i64 0]) ∧ Rws Q4.cs 4 w' w'.heap.size A3 R.length c3 R) := Lib.hid fun W hW => by
    refine (move1_ok A n ca l ⟨p, f, t, b, a, m⟩ W (H.out W hW) HSZ.out hE HP.out).mono ?_
    rintro e w' ⟨hb', A3, c3, L, rfl, ho, hr⟩
    have hnf := ho.1 hmr
    obtain rfl : L = R := nf_same hnf.asc hRnf.asc hnf.nz hRnf.nz fun k => (hnf.cnt k).trans (hRnf.cnt k).symm
    exact ⟨hb', A3, c3, by rw [hZ], hr⟩
  obtain ⟨T, hT⟩ : ∃ T, totS l part = T := ⟨_, rfl⟩
  have T1 : Hid (∀ W, Below w.heap.size w W → Calls Try.prog 16 #[.slice A n ca, .string part] W fun e w' => Below W.heap.size W w' ∧ e = .returned (.tuple #[.int .i64 T, .int .i64 0])) := Lib.hid fun W hW => by rw [← hT]; exact total_ok A n ca l part W (H.out W hW) HSZ.out hE
  have HTR : Hid (totS R part = T + more ⟨p, f, t, b, a, m⟩ part) := Lib.hid (by rw [move_total hRnf, hT])
  have hTb : 0 ≤ T ∧ T ≤ 100000000000 * (l.length : Int) := by rw [← hT]; exact totS_bd fun y hy => by have := (hg y hy).2; omega
  obtain ⟨-, -, -, -, hn1, hn2⟩ := moR_iff (moErr_zero hE0).2.1
  dsimp only at hn1 hn2
  obtain ⟨M, hM⟩ : ∃ M, manyL (foldL l) = M := ⟨_, rfl⟩
  have NM : Hid (∀ W, Below w.heap.size w W → Calls Try.prog 14 #[.slice A n ca] W fun e w' => Below W.heap.size W w' ∧ ∃ A2 c2, e = .returned (.tuple #[.slice A2 (setL M (foldL l)).length c2, .int .i64 (setE M)]) ∧ Rws Q4.cs 4 w' w'.heap.size A2 (setL M (foldL l)).length c2 (setL M (foldL l))) := Lib.hid fun W hW => by rw [← hM]; exact normal_one A n ca l W (H.out W hW) HSZ.out hE
  obtain ⟨U, hU⟩ : ∃ U, perm (Mo.opp ⟨p, f, t, b, a, m⟩) = U := ⟨_, rfl⟩
  have HU := Lib.hid hU
  have HBK : Hid (perm (Mo.opp ⟨p, f, t, b, a, m⟩) = true → ∀ A3 c3 W, Rws Q4.cs 4 W W.heap.size A3 R.length c3 R → Calls Try.prog 28 #[.slice A3 R.length c3, .agg #[.string p, .int .i64 t, .int .i64 f, .int .i64 a, .int .i64 b, .int .i64 m]] W fun e w' => Below W.heap.size W w' ∧ ∃ A4 c4 L Z, e = .returned (.tuple #[.slice A4 L.length c4, .int .i64 Z]) ∧ (M = false → L = setL false (foldL l) ∧ Z = 0) ∧ Rws Q4.cs 4 w' w'.heap.size A4 L.length c4 L) := Lib.hid fun hu A3 c3 W hW => by
    refine (move1_ok A3 R.length c3 R (Mo.opp ⟨p, f, t, b, a, m⟩) W hW HRS.out.2 HRS.out.1 HP.out).mono ?_
    rintro e w' ⟨hb', A4, c4, L, rfl, ho, hr⟩
    refine ⟨hb', A4, c4, L, _, rfl, fun hMf => ?_, hr⟩
    have hcR : cntS R = mvC (cntS l) ⟨p, f, t, b, a, m⟩ := funext hRnf.cnt
    have hmb : manyB (cntS l) = false := by rw [← many_eq (foldL_asc l) (fun k => foldL_c k) (fin_cnt HSZ.out (stock_all hE).2), hM, hMf]
    have he := back_err hpos hZ hu hmb
    rw [← hcR] at he
    have hnf := ho.1 (by
      rw [mvsR, if_pos he]
      rfl)
    have hcc : mvsC (cntS R) [Mo.opp ⟨p, f, t, b, a, m⟩] = cntS l := by
      show mvC (cntS R) _ = _
      rw [hcR, back_c]
    rw [hcc] at hnf
    have h2 := nzL_nf (foldL_asc l)
    exact ⟨nf_same hnf.asc h2.asc hnf.nz h2.nz fun k => (hnf.cnt k).trans ((foldL_c k).symm.trans (h2.cnt k).symm), he⟩
  have hl2 := (stock_all hE).1
  have hneg : IntKind.i64.wrap (-m) = -m := IntWalk.i64_in _ (by constructor <;> omega)
  have hw0 : IntKind.i64.wrap T = T := IntWalk.i64_in _ (by constructor <;> omega)
  have hw1 : IntKind.i64.wrap (T + m) = T + m := IntWalk.i64_in _ (by constructor <;> omega)
  have hw2 : IntKind.i64.wrap (T + -m) = T + -m := IntWalk.i64_in _ (by constructor <;> omega)
  have hpo := fun hf => perm_out (moErr_zero hE0).2.2 hf
  dsimp only at hpo
  obtain ⟨V, hV⟩ : ∃ V, eqS p part = V := ⟨_, rfl⟩
  have hv1 : (part.toList == p.toList) = V := by rw [← hV]; exact BEq.comm
  clear hE hZ hmr hno hmf hg hl1 hpos hfin hmp hRnf hR hRS hT hTb hM hU hn1 hn2 hl2 hE0
  cases V
  · have HMO : Hid (more ⟨p, f, t, b, a, m⟩ part = 0) := Lib.hid (by unfold more; rw [hV]; rfl)
    clear hV
    have T2 : Hid (∀ A3 c3 W, Rws Q4.cs 4 W W.heap.size A3 R.length c3 R → Calls Try.prog 16 #[.slice A3 R.length c3, .string part] W fun e w' => Below W.heap.size W w' ∧ e = .returned (.tuple #[.int .i64 (T), .int .i64 0])) := Lib.hid fun A3 c3 W hW => by
      have := total_ok A3 R.length c3 R part W hW HRS.out.2 HRS.out.1
      rwa [HTR.out, show T + more ⟨p, f, t, b, a, m⟩ part = T by first | (rw [HMO.out]; done) | (rw [HMO.out]; exact Int.add_zero _)] at this
    cases U
    · have UN : Hid (∀ W, Calls Try.prog 24 #[.agg #[.string p, .int .i64 f, .int .i64 t, .int .i64 b, .int .i64 a, .int .i64 m]] W fun e w' => Below W.heap.size W w' ∧ e = .returned (.tuple #[.agg #[.string ⟨#[]⟩, .int .i64 0, .int .i64 0, .int .i64 0, .int .i64 0, .int .i64 0], .int .i64 21])) := Lib.hid fun W => undo_not ⟨p, f, t, b, a, m⟩ W HP.out HE0.out HU.out
      go_enter Try.func6, Try.ntmps6
      go_wp2_with (first
        | (go_at_call 12; with_reducible refine (awake_true _).mono ?_; rintro e w1 ⟨hb1, rfl⟩; have HB1 : Hid (Below w.heap.size w w1) := Lib.hid (HB0.out.trans (hb1.mono HB0.out.size)); have HX1 := Lib.hid (HX0.out.below hb1 HX0.out.lt); clear hb1)
        | (go_at_call 13; go_loud (with_reducible refine (SH.out _ HB1.out).mono ?_; rintro e w2 ⟨hb2, rfl⟩; have HB2 : Hid (Below w.heap.size w w2) := Lib.hid (HB1.out.trans (hb2.mono HB1.out.size)); have HX2 := Lib.hid (HX1.out.below hb2 HX1.out.lt); obtain ⟨x0, x1, x2, x3, x4, x5⟩ := HX2.out.sixc; clear hb2))
        | (go_at_call 17; go_loud (with_reducible refine (RC.out _ HB2.out).mono ?_; rintro e w3 ⟨hb3, rfl⟩; have HB3 : Hid (Below w.heap.size w w3) := Lib.hid (HB2.out.trans (hb3.mono HB2.out.size)); have HX3 := Lib.hid (HX2.out.below hb3 HX2.out.lt); obtain ⟨x0, x1, x2, x3, x4, x5⟩ := HX3.out.sixc; clear hb3))
        | (go_at_call 28; go_loud (with_reducible refine (M1.out _ HB3.out).mono ?_; rintro e w4 ⟨hb4, A4, c4, rfl, hr4⟩; have HB4 : Hid (Below w.heap.size w w4) := Lib.hid (HB3.out.trans (hb4.mono HB3.out.size)); have HX4 := Lib.hid (HX3.out.below hb4 HX3.out.lt); obtain ⟨x0, x1, x2, x3, x4, x5⟩ := HX4.out.sixc; have HR4 := Lib.hid hr4; have hc4 := hr4.cap; have hm4 := hr4.max; clear hr4; clear hb4))
        | (go_at_call 16; go_loud (with_reducible refine (T1.out _ HB4.out).mono ?_; rintro e w5 ⟨hb5, rfl⟩; have HB5 : Hid (Below w.heap.size w w5) := Lib.hid (HB4.out.trans (hb5.mono HB4.out.size)); have HX5 := Lib.hid (HX4.out.below hb5 HX4.out.lt); obtain ⟨x0, x1, x2, x3, x4, x5⟩ := HX5.out.sixc; have HR5 := Lib.hid (HR4.out.below hb5 (Nat.le_refl _) hb5.size); clear hb5))
        | (go_at_call 16; go_loud (with_reducible refine (T2.out _ _ _ HR5.out).mono ?_; rintro e w6 ⟨hb6, rfl⟩; have HB6 : Hid (Below w.heap.size w w6) := Lib.hid (HB5.out.trans (hb6.mono HB5.out.size)); have HX6 := Lib.hid (HX5.out.below hb6 HX5.out.lt); obtain ⟨x0, x1, x2, x3, x4, x5⟩ := HX6.out.sixc; have HR6 := Lib.hid (HR5.out.below hb6 (Nat.le_refl _) hb6.size); clear hb6))
        | (go_at_call 24; go_loud (with_reducible refine (UN.out _).mono ?_; rintro e w7 ⟨hb7, rfl⟩; have HB7 : Hid (Below w.heap.size w w7) := Lib.hid (HB6.out.trans (hb7.mono HB6.out.size)); have HX7 := Lib.hid (HX6.out.below hb7 HX6.out.lt); obtain ⟨x0, x1, x2, x3, x4, x5⟩ := HX7.out.sixc; have HR7 := Lib.hid (rws_alloc (HR6.out.below hb7 (Nat.le_refl _) hb7.size) (.cells #[.string p, .int .i64 t, .int .i64 f, .int .i64 a, .int .i64 b, .int .i64 m] 41)); have HA7 : Hid (Below w.heap.size w (w7.alloc (.cells #[.string p, .int .i64 t, .int .i64 f, .int .i64 a, .int .i64 b, .int .i64 m] 41))) := Lib.hid (HB7.out.alloc HB7.out.size _); clear hb7)))
      go_ret
      exact ⟨HB7.out.alloc HB7.out.size _, rfl⟩
    · have UN : Hid (∀ W, Calls Try.prog 24 #[.agg #[.string p, .int .i64 f, .int .i64 t, .int .i64 b, .int .i64 a, .int .i64 m]] W fun e w' => Below W.heap.size W w' ∧ e = .returned (.tuple #[.agg #[.string p, .int .i64 t, .int .i64 f, .int .i64 a, .int .i64 b, .int .i64 m], .int .i64 0])) := Lib.hid fun W => undo_ok ⟨p, f, t, b, a, m⟩ W HP.out HE0.out HU.out
      have M2 := Lib.hid (HBK.out HU.out)
      cases M
      · go_enter Try.func6, Try.ntmps6
        go_wp2_with (first
          | (go_at_call 12; with_reducible refine (awake_true _).mono ?_; rintro e w1 ⟨hb1, rfl⟩; have HB1 : Hid (Below w.heap.size w w1) := Lib.hid (HB0.out.trans (hb1.mono HB0.out.size)); have HX1 := Lib.hid (HX0.out.below hb1 HX0.out.lt); clear hb1)
          | (go_at_call 13; go_loud (with_reducible refine (SH.out _ HB1.out).mono ?_; rintro e w2 ⟨hb2, rfl⟩; have HB2 : Hid (Below w.heap.size w w2) := Lib.hid (HB1.out.trans (hb2.mono HB1.out.size)); have HX2 := Lib.hid (HX1.out.below hb2 HX1.out.lt); obtain ⟨x0, x1, x2, x3, x4, x5⟩ := HX2.out.sixc; clear hb2))
          | (go_at_call 17; go_loud (with_reducible refine (RC.out _ HB2.out).mono ?_; rintro e w3 ⟨hb3, rfl⟩; have HB3 : Hid (Below w.heap.size w w3) := Lib.hid (HB2.out.trans (hb3.mono HB2.out.size)); have HX3 := Lib.hid (HX2.out.below hb3 HX2.out.lt); obtain ⟨x0, x1, x2, x3, x4, x5⟩ := HX3.out.sixc; clear hb3))
          | (go_at_call 28; go_loud (with_reducible refine (M1.out _ HB3.out).mono ?_; rintro e w4 ⟨hb4, A4, c4, rfl, hr4⟩; have HB4 : Hid (Below w.heap.size w w4) := Lib.hid (HB3.out.trans (hb4.mono HB3.out.size)); have HX4 := Lib.hid (HX3.out.below hb4 HX3.out.lt); obtain ⟨x0, x1, x2, x3, x4, x5⟩ := HX4.out.sixc; have HR4 := Lib.hid hr4; have hc4 := hr4.cap; have hm4 := hr4.max; clear hr4; clear hb4))
          | (go_at_call 16; go_loud (with_reducible refine (T1.out _ HB4.out).mono ?_; rintro e w5 ⟨hb5, rfl⟩; have HB5 : Hid (Below w.heap.size w w5) := Lib.hid (HB4.out.trans (hb5.mono HB4.out.size)); have HX5 := Lib.hid (HX4.out.below hb5 HX4.out.lt); obtain ⟨x0, x1, x2, x3, x4, x5⟩ := HX5.out.sixc; have HR5 := Lib.hid (HR4.out.below hb5 (Nat.le_refl _) hb5.size); clear hb5))
          | (go_at_call 16; go_loud (with_reducible refine (T2.out _ _ _ HR5.out).mono ?_; rintro e w6 ⟨hb6, rfl⟩; have HB6 : Hid (Below w.heap.size w w6) := Lib.hid (HB5.out.trans (hb6.mono HB5.out.size)); have HX6 := Lib.hid (HX5.out.below hb6 HX5.out.lt); obtain ⟨x0, x1, x2, x3, x4, x5⟩ := HX6.out.sixc; have HR6 := Lib.hid (HR5.out.below hb6 (Nat.le_refl _) hb6.size); clear hb6))
          | (go_at_call 24; go_loud (with_reducible refine (UN.out _).mono ?_; rintro e w7 ⟨hb7, rfl⟩; have HB7 : Hid (Below w.heap.size w w7) := Lib.hid (HB6.out.trans (hb7.mono HB6.out.size)); have HX7 := Lib.hid (HX6.out.below hb7 HX6.out.lt); obtain ⟨x0, x1, x2, x3, x4, x5⟩ := HX7.out.sixc; have HR7 := Lib.hid (rws_alloc (HR6.out.below hb7 (Nat.le_refl _) hb7.size) (.cells #[.string p, .int .i64 t, .int .i64 f, .int .i64 a, .int .i64 b, .int .i64 m] 41)); have HA7 : Hid (Below w.heap.size w (w7.alloc (.cells #[.string p, .int .i64 t, .int .i64 f, .int .i64 a, .int .i64 b, .int .i64 m] 41))) := Lib.hid (HB7.out.alloc HB7.out.size _); clear hb7))
          | (go_at_call 28; go_loud (with_reducible refine (M2.out _ _ _ HR7.out).mono ?_; rintro e w8 ⟨hb8, A8, c8, L8, Z8, rfl, hl8, hr8⟩; obtain ⟨rfl, rfl⟩ := hl8 (by first | exact trivial | rfl); have HR8 := Lib.hid hr8; have hc8 := hr8.cap; have hm8 := hr8.max; have HB8 : Hid (Below w.heap.size w w8) := Lib.hid (HA7.out.trans (hb8.mono HA7.out.size)); clear hb8 hr8 hl8))
          | (go_at_call 14; go_loud (with_reducible refine (NM.out _ HB8.out).mono ?_; rintro e w9 ⟨hb9, A9, c9, rfl, hr9⟩; have HR9 := Lib.hid hr9; have HQ9 := Lib.hid (HR8.out.below hb9 (Nat.le_refl _) hb9.size); have hc9 := hr9.cap; have hm9 := hr9.max; have HB9 : Hid (Below w.heap.size w w9) := Lib.hid (HB8.out.trans (hb9.mono HB8.out.size)); clear hb9 hr9))
          | (go_at_call 20; go_loud (with_reducible refine (sameStock_eq A8 A9 _ _ _ _ w9 HQ9.out HR9.out).mono ?_; rintro e w10 ⟨hb10, rfl⟩; have HB10 : Hid (Below w.heap.size w w10) := Lib.hid (HB9.out.trans (hb10.mono HB9.out.size)); clear hb10)))
        go_ret
        exact ⟨HB10.out, rfl⟩
      · go_enter Try.func6, Try.ntmps6
        go_wp2_with (first
          | (go_at_call 12; with_reducible refine (awake_true _).mono ?_; rintro e w1 ⟨hb1, rfl⟩; have HB1 : Hid (Below w.heap.size w w1) := Lib.hid (HB0.out.trans (hb1.mono HB0.out.size)); have HX1 := Lib.hid (HX0.out.below hb1 HX0.out.lt); clear hb1)
          | (go_at_call 13; go_loud (with_reducible refine (SH.out _ HB1.out).mono ?_; rintro e w2 ⟨hb2, rfl⟩; have HB2 : Hid (Below w.heap.size w w2) := Lib.hid (HB1.out.trans (hb2.mono HB1.out.size)); have HX2 := Lib.hid (HX1.out.below hb2 HX1.out.lt); obtain ⟨x0, x1, x2, x3, x4, x5⟩ := HX2.out.sixc; clear hb2))
          | (go_at_call 17; go_loud (with_reducible refine (RC.out _ HB2.out).mono ?_; rintro e w3 ⟨hb3, rfl⟩; have HB3 : Hid (Below w.heap.size w w3) := Lib.hid (HB2.out.trans (hb3.mono HB2.out.size)); have HX3 := Lib.hid (HX2.out.below hb3 HX2.out.lt); obtain ⟨x0, x1, x2, x3, x4, x5⟩ := HX3.out.sixc; clear hb3))
          | (go_at_call 28; go_loud (with_reducible refine (M1.out _ HB3.out).mono ?_; rintro e w4 ⟨hb4, A4, c4, rfl, hr4⟩; have HB4 : Hid (Below w.heap.size w w4) := Lib.hid (HB3.out.trans (hb4.mono HB3.out.size)); have HX4 := Lib.hid (HX3.out.below hb4 HX3.out.lt); obtain ⟨x0, x1, x2, x3, x4, x5⟩ := HX4.out.sixc; have HR4 := Lib.hid hr4; have hc4 := hr4.cap; have hm4 := hr4.max; clear hr4; clear hb4))
          | (go_at_call 16; go_loud (with_reducible refine (T1.out _ HB4.out).mono ?_; rintro e w5 ⟨hb5, rfl⟩; have HB5 : Hid (Below w.heap.size w w5) := Lib.hid (HB4.out.trans (hb5.mono HB4.out.size)); have HX5 := Lib.hid (HX4.out.below hb5 HX4.out.lt); obtain ⟨x0, x1, x2, x3, x4, x5⟩ := HX5.out.sixc; have HR5 := Lib.hid (HR4.out.below hb5 (Nat.le_refl _) hb5.size); clear hb5))
          | (go_at_call 16; go_loud (with_reducible refine (T2.out _ _ _ HR5.out).mono ?_; rintro e w6 ⟨hb6, rfl⟩; have HB6 : Hid (Below w.heap.size w w6) := Lib.hid (HB5.out.trans (hb6.mono HB5.out.size)); have HX6 := Lib.hid (HX5.out.below hb6 HX5.out.lt); obtain ⟨x0, x1, x2, x3, x4, x5⟩ := HX6.out.sixc; have HR6 := Lib.hid (HR5.out.below hb6 (Nat.le_refl _) hb6.size); clear hb6))
          | (go_at_call 24; go_loud (with_reducible refine (UN.out _).mono ?_; rintro e w7 ⟨hb7, rfl⟩; have HB7 : Hid (Below w.heap.size w w7) := Lib.hid (HB6.out.trans (hb7.mono HB6.out.size)); have HX7 := Lib.hid (HX6.out.below hb7 HX6.out.lt); obtain ⟨x0, x1, x2, x3, x4, x5⟩ := HX7.out.sixc; have HR7 := Lib.hid (rws_alloc (HR6.out.below hb7 (Nat.le_refl _) hb7.size) (.cells #[.string p, .int .i64 t, .int .i64 f, .int .i64 a, .int .i64 b, .int .i64 m] 41)); have HA7 : Hid (Below w.heap.size w (w7.alloc (.cells #[.string p, .int .i64 t, .int .i64 f, .int .i64 a, .int .i64 b, .int .i64 m] 41))) := Lib.hid (HB7.out.alloc HB7.out.size _); clear hb7))
          | (go_at_call 28; go_loud (with_reducible refine (M2.out _ _ _ HR7.out).mono ?_; rintro e w8 ⟨hb8, A8, c8, L8, Z8, rfl, -, hr8⟩; have HB8 : Hid (Below w.heap.size w w8) := Lib.hid (HA7.out.trans (hb8.mono HA7.out.size)); clear hb8 hr8))
          | (go_at_call 14; go_loud (with_reducible refine (NM.out _ HB8.out).mono ?_; rintro e w9 ⟨hb9, A9, c9, rfl, hr9⟩; have HB9 : Hid (Below w.heap.size w w9) := Lib.hid (HB8.out.trans (hb9.mono HB8.out.size)); clear hb9 hr9)))
        go_ret
        exact ⟨HB9.out, rfl⟩
  · by_cases h1 : f = -1
    · have h2 : t ≠ -1 := hpo h1
      have HMO : Hid (more ⟨p, f, t, b, a, m⟩ part = m) := Lib.hid (by unfold more; rw [hV]; dsimp only; rw [if_pos rfl, if_pos h1, if_neg h2]; exact Int.zero_add _)
      have hq1 : (f == -1) = true := by simpa using h1
      have hq2 : (t == -1) = false := by simpa using h2
      clear hV h1 h2 hpo
      have T2 : Hid (∀ A3 c3 W, Rws Q4.cs 4 W W.heap.size A3 R.length c3 R → Calls Try.prog 16 #[.slice A3 R.length c3, .string part] W fun e w' => Below W.heap.size W w' ∧ e = .returned (.tuple #[.int .i64 (T + m), .int .i64 0])) := Lib.hid fun A3 c3 W hW => by
        have := total_ok A3 R.length c3 R part W hW HRS.out.2 HRS.out.1
        rwa [HTR.out, show T + more ⟨p, f, t, b, a, m⟩ part = T + m by first | (rw [HMO.out]; done) | (rw [HMO.out]; exact Int.add_zero _)] at this
      cases U
      · have UN : Hid (∀ W, Calls Try.prog 24 #[.agg #[.string p, .int .i64 f, .int .i64 t, .int .i64 b, .int .i64 a, .int .i64 m]] W fun e w' => Below W.heap.size W w' ∧ e = .returned (.tuple #[.agg #[.string ⟨#[]⟩, .int .i64 0, .int .i64 0, .int .i64 0, .int .i64 0, .int .i64 0], .int .i64 21])) := Lib.hid fun W => undo_not ⟨p, f, t, b, a, m⟩ W HP.out HE0.out HU.out
        go_enter Try.func6, Try.ntmps6
        go_wp2_with (first
          | (go_at_call 12; with_reducible refine (awake_true _).mono ?_; rintro e w1 ⟨hb1, rfl⟩; have HB1 : Hid (Below w.heap.size w w1) := Lib.hid (HB0.out.trans (hb1.mono HB0.out.size)); have HX1 := Lib.hid (HX0.out.below hb1 HX0.out.lt); clear hb1)
          | (go_at_call 13; go_loud (with_reducible refine (SH.out _ HB1.out).mono ?_; rintro e w2 ⟨hb2, rfl⟩; have HB2 : Hid (Below w.heap.size w w2) := Lib.hid (HB1.out.trans (hb2.mono HB1.out.size)); have HX2 := Lib.hid (HX1.out.below hb2 HX1.out.lt); obtain ⟨x0, x1, x2, x3, x4, x5⟩ := HX2.out.sixc; clear hb2))
          | (go_at_call 17; go_loud (with_reducible refine (RC.out _ HB2.out).mono ?_; rintro e w3 ⟨hb3, rfl⟩; have HB3 : Hid (Below w.heap.size w w3) := Lib.hid (HB2.out.trans (hb3.mono HB2.out.size)); have HX3 := Lib.hid (HX2.out.below hb3 HX2.out.lt); obtain ⟨x0, x1, x2, x3, x4, x5⟩ := HX3.out.sixc; clear hb3))
          | (go_at_call 28; go_loud (with_reducible refine (M1.out _ HB3.out).mono ?_; rintro e w4 ⟨hb4, A4, c4, rfl, hr4⟩; have HB4 : Hid (Below w.heap.size w w4) := Lib.hid (HB3.out.trans (hb4.mono HB3.out.size)); have HX4 := Lib.hid (HX3.out.below hb4 HX3.out.lt); obtain ⟨x0, x1, x2, x3, x4, x5⟩ := HX4.out.sixc; have HR4 := Lib.hid hr4; have hc4 := hr4.cap; have hm4 := hr4.max; clear hr4; clear hb4))
          | (go_at_call 16; go_loud (with_reducible refine (T1.out _ HB4.out).mono ?_; rintro e w5 ⟨hb5, rfl⟩; have HB5 : Hid (Below w.heap.size w w5) := Lib.hid (HB4.out.trans (hb5.mono HB4.out.size)); have HX5 := Lib.hid (HX4.out.below hb5 HX4.out.lt); obtain ⟨x0, x1, x2, x3, x4, x5⟩ := HX5.out.sixc; have HR5 := Lib.hid (HR4.out.below hb5 (Nat.le_refl _) hb5.size); clear hb5))
          | (go_at_call 16; go_loud (with_reducible refine (T2.out _ _ _ HR5.out).mono ?_; rintro e w6 ⟨hb6, rfl⟩; have HB6 : Hid (Below w.heap.size w w6) := Lib.hid (HB5.out.trans (hb6.mono HB5.out.size)); have HX6 := Lib.hid (HX5.out.below hb6 HX5.out.lt); obtain ⟨x0, x1, x2, x3, x4, x5⟩ := HX6.out.sixc; have HR6 := Lib.hid (HR5.out.below hb6 (Nat.le_refl _) hb6.size); clear hb6))
          | (go_at_call 24; go_loud (with_reducible refine (UN.out _).mono ?_; rintro e w7 ⟨hb7, rfl⟩; have HB7 : Hid (Below w.heap.size w w7) := Lib.hid (HB6.out.trans (hb7.mono HB6.out.size)); have HX7 := Lib.hid (HX6.out.below hb7 HX6.out.lt); obtain ⟨x0, x1, x2, x3, x4, x5⟩ := HX7.out.sixc; have HR7 := Lib.hid (rws_alloc (HR6.out.below hb7 (Nat.le_refl _) hb7.size) (.cells #[.string p, .int .i64 t, .int .i64 f, .int .i64 a, .int .i64 b, .int .i64 m] 41)); have HA7 : Hid (Below w.heap.size w (w7.alloc (.cells #[.string p, .int .i64 t, .int .i64 f, .int .i64 a, .int .i64 b, .int .i64 m] 41))) := Lib.hid (HB7.out.alloc HB7.out.size _); clear hb7)))
        go_ret
        exact ⟨HB7.out.alloc HB7.out.size _, rfl⟩
      · have UN : Hid (∀ W, Calls Try.prog 24 #[.agg #[.string p, .int .i64 f, .int .i64 t, .int .i64 b, .int .i64 a, .int .i64 m]] W fun e w' => Below W.heap.size W w' ∧ e = .returned (.tuple #[.agg #[.string p, .int .i64 t, .int .i64 f, .int .i64 a, .int .i64 b, .int .i64 m], .int .i64 0])) := Lib.hid fun W => undo_ok ⟨p, f, t, b, a, m⟩ W HP.out HE0.out HU.out
        have M2 := Lib.hid (HBK.out HU.out)
        cases M
        · go_enter Try.func6, Try.ntmps6
          go_wp2_with (first
            | (go_at_call 12; with_reducible refine (awake_true _).mono ?_; rintro e w1 ⟨hb1, rfl⟩; have HB1 : Hid (Below w.heap.size w w1) := Lib.hid (HB0.out.trans (hb1.mono HB0.out.size)); have HX1 := Lib.hid (HX0.out.below hb1 HX0.out.lt); clear hb1)
            | (go_at_call 13; go_loud (with_reducible refine (SH.out _ HB1.out).mono ?_; rintro e w2 ⟨hb2, rfl⟩; have HB2 : Hid (Below w.heap.size w w2) := Lib.hid (HB1.out.trans (hb2.mono HB1.out.size)); have HX2 := Lib.hid (HX1.out.below hb2 HX1.out.lt); obtain ⟨x0, x1, x2, x3, x4, x5⟩ := HX2.out.sixc; clear hb2))
            | (go_at_call 17; go_loud (with_reducible refine (RC.out _ HB2.out).mono ?_; rintro e w3 ⟨hb3, rfl⟩; have HB3 : Hid (Below w.heap.size w w3) := Lib.hid (HB2.out.trans (hb3.mono HB2.out.size)); have HX3 := Lib.hid (HX2.out.below hb3 HX2.out.lt); obtain ⟨x0, x1, x2, x3, x4, x5⟩ := HX3.out.sixc; clear hb3))
            | (go_at_call 28; go_loud (with_reducible refine (M1.out _ HB3.out).mono ?_; rintro e w4 ⟨hb4, A4, c4, rfl, hr4⟩; have HB4 : Hid (Below w.heap.size w w4) := Lib.hid (HB3.out.trans (hb4.mono HB3.out.size)); have HX4 := Lib.hid (HX3.out.below hb4 HX3.out.lt); obtain ⟨x0, x1, x2, x3, x4, x5⟩ := HX4.out.sixc; have HR4 := Lib.hid hr4; have hc4 := hr4.cap; have hm4 := hr4.max; clear hr4; clear hb4))
            | (go_at_call 16; go_loud (with_reducible refine (T1.out _ HB4.out).mono ?_; rintro e w5 ⟨hb5, rfl⟩; have HB5 : Hid (Below w.heap.size w w5) := Lib.hid (HB4.out.trans (hb5.mono HB4.out.size)); have HX5 := Lib.hid (HX4.out.below hb5 HX4.out.lt); obtain ⟨x0, x1, x2, x3, x4, x5⟩ := HX5.out.sixc; have HR5 := Lib.hid (HR4.out.below hb5 (Nat.le_refl _) hb5.size); clear hb5))
            | (go_at_call 16; go_loud (with_reducible refine (T2.out _ _ _ HR5.out).mono ?_; rintro e w6 ⟨hb6, rfl⟩; have HB6 : Hid (Below w.heap.size w w6) := Lib.hid (HB5.out.trans (hb6.mono HB5.out.size)); have HX6 := Lib.hid (HX5.out.below hb6 HX5.out.lt); obtain ⟨x0, x1, x2, x3, x4, x5⟩ := HX6.out.sixc; have HR6 := Lib.hid (HR5.out.below hb6 (Nat.le_refl _) hb6.size); clear hb6))
            | (go_at_call 24; go_loud (with_reducible refine (UN.out _).mono ?_; rintro e w7 ⟨hb7, rfl⟩; have HB7 : Hid (Below w.heap.size w w7) := Lib.hid (HB6.out.trans (hb7.mono HB6.out.size)); have HX7 := Lib.hid (HX6.out.below hb7 HX6.out.lt); obtain ⟨x0, x1, x2, x3, x4, x5⟩ := HX7.out.sixc; have HR7 := Lib.hid (rws_alloc (HR6.out.below hb7 (Nat.le_refl _) hb7.size) (.cells #[.string p, .int .i64 t, .int .i64 f, .int .i64 a, .int .i64 b, .int .i64 m] 41)); have HA7 : Hid (Below w.heap.size w (w7.alloc (.cells #[.string p, .int .i64 t, .int .i64 f, .int .i64 a, .int .i64 b, .int .i64 m] 41))) := Lib.hid (HB7.out.alloc HB7.out.size _); clear hb7))
            | (go_at_call 28; go_loud (with_reducible refine (M2.out _ _ _ HR7.out).mono ?_; rintro e w8 ⟨hb8, A8, c8, L8, Z8, rfl, hl8, hr8⟩; obtain ⟨rfl, rfl⟩ := hl8 (by first | exact trivial | rfl); have HR8 := Lib.hid hr8; have hc8 := hr8.cap; have hm8 := hr8.max; have HB8 : Hid (Below w.heap.size w w8) := Lib.hid (HA7.out.trans (hb8.mono HA7.out.size)); clear hb8 hr8 hl8))
            | (go_at_call 14; go_loud (with_reducible refine (NM.out _ HB8.out).mono ?_; rintro e w9 ⟨hb9, A9, c9, rfl, hr9⟩; have HR9 := Lib.hid hr9; have HQ9 := Lib.hid (HR8.out.below hb9 (Nat.le_refl _) hb9.size); have hc9 := hr9.cap; have hm9 := hr9.max; have HB9 : Hid (Below w.heap.size w w9) := Lib.hid (HB8.out.trans (hb9.mono HB8.out.size)); clear hb9 hr9))
            | (go_at_call 20; go_loud (with_reducible refine (sameStock_eq A8 A9 _ _ _ _ w9 HQ9.out HR9.out).mono ?_; rintro e w10 ⟨hb10, rfl⟩; have HB10 : Hid (Below w.heap.size w w10) := Lib.hid (HB9.out.trans (hb10.mono HB9.out.size)); clear hb10)))
          go_ret
          exact ⟨HB10.out, rfl⟩
        · go_enter Try.func6, Try.ntmps6
          go_wp2_with (first
            | (go_at_call 12; with_reducible refine (awake_true _).mono ?_; rintro e w1 ⟨hb1, rfl⟩; have HB1 : Hid (Below w.heap.size w w1) := Lib.hid (HB0.out.trans (hb1.mono HB0.out.size)); have HX1 := Lib.hid (HX0.out.below hb1 HX0.out.lt); clear hb1)
            | (go_at_call 13; go_loud (with_reducible refine (SH.out _ HB1.out).mono ?_; rintro e w2 ⟨hb2, rfl⟩; have HB2 : Hid (Below w.heap.size w w2) := Lib.hid (HB1.out.trans (hb2.mono HB1.out.size)); have HX2 := Lib.hid (HX1.out.below hb2 HX1.out.lt); obtain ⟨x0, x1, x2, x3, x4, x5⟩ := HX2.out.sixc; clear hb2))
            | (go_at_call 17; go_loud (with_reducible refine (RC.out _ HB2.out).mono ?_; rintro e w3 ⟨hb3, rfl⟩; have HB3 : Hid (Below w.heap.size w w3) := Lib.hid (HB2.out.trans (hb3.mono HB2.out.size)); have HX3 := Lib.hid (HX2.out.below hb3 HX2.out.lt); obtain ⟨x0, x1, x2, x3, x4, x5⟩ := HX3.out.sixc; clear hb3))
            | (go_at_call 28; go_loud (with_reducible refine (M1.out _ HB3.out).mono ?_; rintro e w4 ⟨hb4, A4, c4, rfl, hr4⟩; have HB4 : Hid (Below w.heap.size w w4) := Lib.hid (HB3.out.trans (hb4.mono HB3.out.size)); have HX4 := Lib.hid (HX3.out.below hb4 HX3.out.lt); obtain ⟨x0, x1, x2, x3, x4, x5⟩ := HX4.out.sixc; have HR4 := Lib.hid hr4; have hc4 := hr4.cap; have hm4 := hr4.max; clear hr4; clear hb4))
            | (go_at_call 16; go_loud (with_reducible refine (T1.out _ HB4.out).mono ?_; rintro e w5 ⟨hb5, rfl⟩; have HB5 : Hid (Below w.heap.size w w5) := Lib.hid (HB4.out.trans (hb5.mono HB4.out.size)); have HX5 := Lib.hid (HX4.out.below hb5 HX4.out.lt); obtain ⟨x0, x1, x2, x3, x4, x5⟩ := HX5.out.sixc; have HR5 := Lib.hid (HR4.out.below hb5 (Nat.le_refl _) hb5.size); clear hb5))
            | (go_at_call 16; go_loud (with_reducible refine (T2.out _ _ _ HR5.out).mono ?_; rintro e w6 ⟨hb6, rfl⟩; have HB6 : Hid (Below w.heap.size w w6) := Lib.hid (HB5.out.trans (hb6.mono HB5.out.size)); have HX6 := Lib.hid (HX5.out.below hb6 HX5.out.lt); obtain ⟨x0, x1, x2, x3, x4, x5⟩ := HX6.out.sixc; have HR6 := Lib.hid (HR5.out.below hb6 (Nat.le_refl _) hb6.size); clear hb6))
            | (go_at_call 24; go_loud (with_reducible refine (UN.out _).mono ?_; rintro e w7 ⟨hb7, rfl⟩; have HB7 : Hid (Below w.heap.size w w7) := Lib.hid (HB6.out.trans (hb7.mono HB6.out.size)); have HX7 := Lib.hid (HX6.out.below hb7 HX6.out.lt); obtain ⟨x0, x1, x2, x3, x4, x5⟩ := HX7.out.sixc; have HR7 := Lib.hid (rws_alloc (HR6.out.below hb7 (Nat.le_refl _) hb7.size) (.cells #[.string p, .int .i64 t, .int .i64 f, .int .i64 a, .int .i64 b, .int .i64 m] 41)); have HA7 : Hid (Below w.heap.size w (w7.alloc (.cells #[.string p, .int .i64 t, .int .i64 f, .int .i64 a, .int .i64 b, .int .i64 m] 41))) := Lib.hid (HB7.out.alloc HB7.out.size _); clear hb7))
            | (go_at_call 28; go_loud (with_reducible refine (M2.out _ _ _ HR7.out).mono ?_; rintro e w8 ⟨hb8, A8, c8, L8, Z8, rfl, -, hr8⟩; have HB8 : Hid (Below w.heap.size w w8) := Lib.hid (HA7.out.trans (hb8.mono HA7.out.size)); clear hb8 hr8))
            | (go_at_call 14; go_loud (with_reducible refine (NM.out _ HB8.out).mono ?_; rintro e w9 ⟨hb9, A9, c9, rfl, hr9⟩; have HB9 : Hid (Below w.heap.size w w9) := Lib.hid (HB8.out.trans (hb9.mono HB8.out.size)); clear hb9 hr9)))
          go_ret
          exact ⟨HB9.out, rfl⟩
    · have hq1 : (f == -1) = false := by simpa using h1
      by_cases h2 : t = -1
      · have HMO : Hid (more ⟨p, f, t, b, a, m⟩ part = -m) := Lib.hid (by unfold more; rw [hV]; dsimp only; rw [if_pos rfl, if_neg h1, if_pos h2]; exact Int.add_zero _)
        have hq2 : (t == -1) = true := by simpa using h2
        clear hV h1 h2 hpo
        have T2 : Hid (∀ A3 c3 W, Rws Q4.cs 4 W W.heap.size A3 R.length c3 R → Calls Try.prog 16 #[.slice A3 R.length c3, .string part] W fun e w' => Below W.heap.size W w' ∧ e = .returned (.tuple #[.int .i64 (T + -m), .int .i64 0])) := Lib.hid fun A3 c3 W hW => by
          have := total_ok A3 R.length c3 R part W hW HRS.out.2 HRS.out.1
          rwa [HTR.out, show T + more ⟨p, f, t, b, a, m⟩ part = T + -m by first | (rw [HMO.out]; done) | (rw [HMO.out]; exact Int.add_zero _)] at this
        cases U
        · have UN : Hid (∀ W, Calls Try.prog 24 #[.agg #[.string p, .int .i64 f, .int .i64 t, .int .i64 b, .int .i64 a, .int .i64 m]] W fun e w' => Below W.heap.size W w' ∧ e = .returned (.tuple #[.agg #[.string ⟨#[]⟩, .int .i64 0, .int .i64 0, .int .i64 0, .int .i64 0, .int .i64 0], .int .i64 21])) := Lib.hid fun W => undo_not ⟨p, f, t, b, a, m⟩ W HP.out HE0.out HU.out
          go_enter Try.func6, Try.ntmps6
          go_wp2_with (first
            | (go_at_call 12; with_reducible refine (awake_true _).mono ?_; rintro e w1 ⟨hb1, rfl⟩; have HB1 : Hid (Below w.heap.size w w1) := Lib.hid (HB0.out.trans (hb1.mono HB0.out.size)); have HX1 := Lib.hid (HX0.out.below hb1 HX0.out.lt); clear hb1)
            | (go_at_call 13; go_loud (with_reducible refine (SH.out _ HB1.out).mono ?_; rintro e w2 ⟨hb2, rfl⟩; have HB2 : Hid (Below w.heap.size w w2) := Lib.hid (HB1.out.trans (hb2.mono HB1.out.size)); have HX2 := Lib.hid (HX1.out.below hb2 HX1.out.lt); obtain ⟨x0, x1, x2, x3, x4, x5⟩ := HX2.out.sixc; clear hb2))
            | (go_at_call 17; go_loud (with_reducible refine (RC.out _ HB2.out).mono ?_; rintro e w3 ⟨hb3, rfl⟩; have HB3 : Hid (Below w.heap.size w w3) := Lib.hid (HB2.out.trans (hb3.mono HB2.out.size)); have HX3 := Lib.hid (HX2.out.below hb3 HX2.out.lt); obtain ⟨x0, x1, x2, x3, x4, x5⟩ := HX3.out.sixc; clear hb3))
            | (go_at_call 28; go_loud (with_reducible refine (M1.out _ HB3.out).mono ?_; rintro e w4 ⟨hb4, A4, c4, rfl, hr4⟩; have HB4 : Hid (Below w.heap.size w w4) := Lib.hid (HB3.out.trans (hb4.mono HB3.out.size)); have HX4 := Lib.hid (HX3.out.below hb4 HX3.out.lt); obtain ⟨x0, x1, x2, x3, x4, x5⟩ := HX4.out.sixc; have HR4 := Lib.hid hr4; have hc4 := hr4.cap; have hm4 := hr4.max; clear hr4; clear hb4))
            | (go_at_call 16; go_loud (with_reducible refine (T1.out _ HB4.out).mono ?_; rintro e w5 ⟨hb5, rfl⟩; have HB5 : Hid (Below w.heap.size w w5) := Lib.hid (HB4.out.trans (hb5.mono HB4.out.size)); have HX5 := Lib.hid (HX4.out.below hb5 HX4.out.lt); obtain ⟨x0, x1, x2, x3, x4, x5⟩ := HX5.out.sixc; have HR5 := Lib.hid (HR4.out.below hb5 (Nat.le_refl _) hb5.size); clear hb5))
            | (go_at_call 16; go_loud (with_reducible refine (T2.out _ _ _ HR5.out).mono ?_; rintro e w6 ⟨hb6, rfl⟩; have HB6 : Hid (Below w.heap.size w w6) := Lib.hid (HB5.out.trans (hb6.mono HB5.out.size)); have HX6 := Lib.hid (HX5.out.below hb6 HX5.out.lt); obtain ⟨x0, x1, x2, x3, x4, x5⟩ := HX6.out.sixc; have HR6 := Lib.hid (HR5.out.below hb6 (Nat.le_refl _) hb6.size); clear hb6))
            | (go_at_call 24; go_loud (with_reducible refine (UN.out _).mono ?_; rintro e w7 ⟨hb7, rfl⟩; have HB7 : Hid (Below w.heap.size w w7) := Lib.hid (HB6.out.trans (hb7.mono HB6.out.size)); have HX7 := Lib.hid (HX6.out.below hb7 HX6.out.lt); obtain ⟨x0, x1, x2, x3, x4, x5⟩ := HX7.out.sixc; have HR7 := Lib.hid (rws_alloc (HR6.out.below hb7 (Nat.le_refl _) hb7.size) (.cells #[.string p, .int .i64 t, .int .i64 f, .int .i64 a, .int .i64 b, .int .i64 m] 41)); have HA7 : Hid (Below w.heap.size w (w7.alloc (.cells #[.string p, .int .i64 t, .int .i64 f, .int .i64 a, .int .i64 b, .int .i64 m] 41))) := Lib.hid (HB7.out.alloc HB7.out.size _); clear hb7)))
          go_ret
          exact ⟨HB7.out.alloc HB7.out.size _, rfl⟩
        · have UN : Hid (∀ W, Calls Try.prog 24 #[.agg #[.string p, .int .i64 f, .int .i64 t, .int .i64 b, .int .i64 a, .int .i64 m]] W fun e w' => Below W.heap.size W w' ∧ e = .returned (.tuple #[.agg #[.string p, .int .i64 t, .int .i64 f, .int .i64 a, .int .i64 b, .int .i64 m], .int .i64 0])) := Lib.hid fun W => undo_ok ⟨p, f, t, b, a, m⟩ W HP.out HE0.out HU.out
          have M2 := Lib.hid (HBK.out HU.out)
          cases M
          · go_enter Try.func6, Try.ntmps6
            go_wp2_with (first
              | (go_at_call 12; with_reducible refine (awake_true _).mono ?_; rintro e w1 ⟨hb1, rfl⟩; have HB1 : Hid (Below w.heap.size w w1) := Lib.hid (HB0.out.trans (hb1.mono HB0.out.size)); have HX1 := Lib.hid (HX0.out.below hb1 HX0.out.lt); clear hb1)
              | (go_at_call 13; go_loud (with_reducible refine (SH.out _ HB1.out).mono ?_; rintro e w2 ⟨hb2, rfl⟩; have HB2 : Hid (Below w.heap.size w w2) := Lib.hid (HB1.out.trans (hb2.mono HB1.out.size)); have HX2 := Lib.hid (HX1.out.below hb2 HX1.out.lt); obtain ⟨x0, x1, x2, x3, x4, x5⟩ := HX2.out.sixc; clear hb2))
              | (go_at_call 17; go_loud (with_reducible refine (RC.out _ HB2.out).mono ?_; rintro e w3 ⟨hb3, rfl⟩; have HB3 : Hid (Below w.heap.size w w3) := Lib.hid (HB2.out.trans (hb3.mono HB2.out.size)); have HX3 := Lib.hid (HX2.out.below hb3 HX2.out.lt); obtain ⟨x0, x1, x2, x3, x4, x5⟩ := HX3.out.sixc; clear hb3))
              | (go_at_call 28; go_loud (with_reducible refine (M1.out _ HB3.out).mono ?_; rintro e w4 ⟨hb4, A4, c4, rfl, hr4⟩; have HB4 : Hid (Below w.heap.size w w4) := Lib.hid (HB3.out.trans (hb4.mono HB3.out.size)); have HX4 := Lib.hid (HX3.out.below hb4 HX3.out.lt); obtain ⟨x0, x1, x2, x3, x4, x5⟩ := HX4.out.sixc; have HR4 := Lib.hid hr4; have hc4 := hr4.cap; have hm4 := hr4.max; clear hr4; clear hb4))
              | (go_at_call 16; go_loud (with_reducible refine (T1.out _ HB4.out).mono ?_; rintro e w5 ⟨hb5, rfl⟩; have HB5 : Hid (Below w.heap.size w w5) := Lib.hid (HB4.out.trans (hb5.mono HB4.out.size)); have HX5 := Lib.hid (HX4.out.below hb5 HX4.out.lt); obtain ⟨x0, x1, x2, x3, x4, x5⟩ := HX5.out.sixc; have HR5 := Lib.hid (HR4.out.below hb5 (Nat.le_refl _) hb5.size); clear hb5))
              | (go_at_call 16; go_loud (with_reducible refine (T2.out _ _ _ HR5.out).mono ?_; rintro e w6 ⟨hb6, rfl⟩; have HB6 : Hid (Below w.heap.size w w6) := Lib.hid (HB5.out.trans (hb6.mono HB5.out.size)); have HX6 := Lib.hid (HX5.out.below hb6 HX5.out.lt); obtain ⟨x0, x1, x2, x3, x4, x5⟩ := HX6.out.sixc; have HR6 := Lib.hid (HR5.out.below hb6 (Nat.le_refl _) hb6.size); clear hb6))
              | (go_at_call 24; go_loud (with_reducible refine (UN.out _).mono ?_; rintro e w7 ⟨hb7, rfl⟩; have HB7 : Hid (Below w.heap.size w w7) := Lib.hid (HB6.out.trans (hb7.mono HB6.out.size)); have HX7 := Lib.hid (HX6.out.below hb7 HX6.out.lt); obtain ⟨x0, x1, x2, x3, x4, x5⟩ := HX7.out.sixc; have HR7 := Lib.hid (rws_alloc (HR6.out.below hb7 (Nat.le_refl _) hb7.size) (.cells #[.string p, .int .i64 t, .int .i64 f, .int .i64 a, .int .i64 b, .int .i64 m] 41)); have HA7 : Hid (Below w.heap.size w (w7.alloc (.cells #[.string p, .int .i64 t, .int .i64 f, .int .i64 a, .int .i64 b, .int .i64 m] 41))) := Lib.hid (HB7.out.alloc HB7.out.size _); clear hb7))
              | (go_at_call 28; go_loud (with_reducible refine (M2.out _ _ _ HR7.out).mono ?_; rintro e w8 ⟨hb8, A8, c8, L8, Z8, rfl, hl8, hr8⟩; obtain ⟨rfl, rfl⟩ := hl8 (by first | exact trivial | rfl); have HR8 := Lib.hid hr8; have hc8 := hr8.cap; have hm8 := hr8.max; have HB8 : Hid (Below w.heap.size w w8) := Lib.hid (HA7.out.trans (hb8.mono HA7.out.size)); clear hb8 hr8 hl8))
              | (go_at_call 14; go_loud (with_reducible refine (NM.out _ HB8.out).mono ?_; rintro e w9 ⟨hb9, A9, c9, rfl, hr9⟩; have HR9 := Lib.hid hr9; have HQ9 := Lib.hid (HR8.out.below hb9 (Nat.le_refl _) hb9.size); have hc9 := hr9.cap; have hm9 := hr9.max; have HB9 : Hid (Below w.heap.size w w9) := Lib.hid (HB8.out.trans (hb9.mono HB8.out.size)); clear hb9 hr9))
              | (go_at_call 20; go_loud (with_reducible refine (sameStock_eq A8 A9 _ _ _ _ w9 HQ9.out HR9.out).mono ?_; rintro e w10 ⟨hb10, rfl⟩; have HB10 : Hid (Below w.heap.size w w10) := Lib.hid (HB9.out.trans (hb10.mono HB9.out.size)); clear hb10)))
            go_ret
            exact ⟨HB10.out, rfl⟩
          · go_enter Try.func6, Try.ntmps6
            go_wp2_with (first
              | (go_at_call 12; with_reducible refine (awake_true _).mono ?_; rintro e w1 ⟨hb1, rfl⟩; have HB1 : Hid (Below w.heap.size w w1) := Lib.hid (HB0.out.trans (hb1.mono HB0.out.size)); have HX1 := Lib.hid (HX0.out.below hb1 HX0.out.lt); clear hb1)
              | (go_at_call 13; go_loud (with_reducible refine (SH.out _ HB1.out).mono ?_; rintro e w2 ⟨hb2, rfl⟩; have HB2 : Hid (Below w.heap.size w w2) := Lib.hid (HB1.out.trans (hb2.mono HB1.out.size)); have HX2 := Lib.hid (HX1.out.below hb2 HX1.out.lt); obtain ⟨x0, x1, x2, x3, x4, x5⟩ := HX2.out.sixc; clear hb2))
              | (go_at_call 17; go_loud (with_reducible refine (RC.out _ HB2.out).mono ?_; rintro e w3 ⟨hb3, rfl⟩; have HB3 : Hid (Below w.heap.size w w3) := Lib.hid (HB2.out.trans (hb3.mono HB2.out.size)); have HX3 := Lib.hid (HX2.out.below hb3 HX2.out.lt); obtain ⟨x0, x1, x2, x3, x4, x5⟩ := HX3.out.sixc; clear hb3))
              | (go_at_call 28; go_loud (with_reducible refine (M1.out _ HB3.out).mono ?_; rintro e w4 ⟨hb4, A4, c4, rfl, hr4⟩; have HB4 : Hid (Below w.heap.size w w4) := Lib.hid (HB3.out.trans (hb4.mono HB3.out.size)); have HX4 := Lib.hid (HX3.out.below hb4 HX3.out.lt); obtain ⟨x0, x1, x2, x3, x4, x5⟩ := HX4.out.sixc; have HR4 := Lib.hid hr4; have hc4 := hr4.cap; have hm4 := hr4.max; clear hr4; clear hb4))
              | (go_at_call 16; go_loud (with_reducible refine (T1.out _ HB4.out).mono ?_; rintro e w5 ⟨hb5, rfl⟩; have HB5 : Hid (Below w.heap.size w w5) := Lib.hid (HB4.out.trans (hb5.mono HB4.out.size)); have HX5 := Lib.hid (HX4.out.below hb5 HX4.out.lt); obtain ⟨x0, x1, x2, x3, x4, x5⟩ := HX5.out.sixc; have HR5 := Lib.hid (HR4.out.below hb5 (Nat.le_refl _) hb5.size); clear hb5))
              | (go_at_call 16; go_loud (with_reducible refine (T2.out _ _ _ HR5.out).mono ?_; rintro e w6 ⟨hb6, rfl⟩; have HB6 : Hid (Below w.heap.size w w6) := Lib.hid (HB5.out.trans (hb6.mono HB5.out.size)); have HX6 := Lib.hid (HX5.out.below hb6 HX5.out.lt); obtain ⟨x0, x1, x2, x3, x4, x5⟩ := HX6.out.sixc; have HR6 := Lib.hid (HR5.out.below hb6 (Nat.le_refl _) hb6.size); clear hb6))
              | (go_at_call 24; go_loud (with_reducible refine (UN.out _).mono ?_; rintro e w7 ⟨hb7, rfl⟩; have HB7 : Hid (Below w.heap.size w w7) := Lib.hid (HB6.out.trans (hb7.mono HB6.out.size)); have HX7 := Lib.hid (HX6.out.below hb7 HX6.out.lt); obtain ⟨x0, x1, x2, x3, x4, x5⟩ := HX7.out.sixc; have HR7 := Lib.hid (rws_alloc (HR6.out.below hb7 (Nat.le_refl _) hb7.size) (.cells #[.string p, .int .i64 t, .int .i64 f, .int .i64 a, .int .i64 b, .int .i64 m] 41)); have HA7 : Hid (Below w.heap.size w (w7.alloc (.cells #[.string p, .int .i64 t, .int .i64 f, .int .i64 a, .int .i64 b, .int .i64 m] 41))) := Lib.hid (HB7.out.alloc HB7.out.size _); clear hb7))
              | (go_at_call 28; go_loud (with_reducible refine (M2.out _ _ _ HR7.out).mono ?_; rintro e w8 ⟨hb8, A8, c8, L8, Z8, rfl, -, hr8⟩; have HB8 : Hid (Below w.heap.size w w8) := Lib.hid (HA7.out.trans (hb8.mono HA7.out.size)); clear hb8 hr8))
              | (go_at_call 14; go_loud (with_reducible refine (NM.out _ HB8.out).mono ?_; rintro e w9 ⟨hb9, A9, c9, rfl, hr9⟩; have HB9 : Hid (Below w.heap.size w w9) := Lib.hid (HB8.out.trans (hb9.mono HB8.out.size)); clear hb9 hr9)))
            go_ret
            exact ⟨HB9.out, rfl⟩
      · have HMO : Hid (more ⟨p, f, t, b, a, m⟩ part = 0) := Lib.hid (by unfold more; rw [hV]; dsimp only; rw [if_pos rfl, if_neg h1, if_neg h2]; omega)
        have hq2 : (t == -1) = false := by simpa using h2
        clear hV h1 h2 hpo
        have T2 : Hid (∀ A3 c3 W, Rws Q4.cs 4 W W.heap.size A3 R.length c3 R → Calls Try.prog 16 #[.slice A3 R.length c3, .string part] W fun e w' => Below W.heap.size W w' ∧ e = .returned (.tuple #[.int .i64 (T), .int .i64 0])) := Lib.hid fun A3 c3 W hW => by
          have := total_ok A3 R.length c3 R part W hW HRS.out.2 HRS.out.1
          rwa [HTR.out, show T + more ⟨p, f, t, b, a, m⟩ part = T by first | (rw [HMO.out]; done) | (rw [HMO.out]; exact Int.add_zero _)] at this
        cases U
        · have UN : Hid (∀ W, Calls Try.prog 24 #[.agg #[.string p, .int .i64 f, .int .i64 t, .int .i64 b, .int .i64 a, .int .i64 m]] W fun e w' => Below W.heap.size W w' ∧ e = .returned (.tuple #[.agg #[.string ⟨#[]⟩, .int .i64 0, .int .i64 0, .int .i64 0, .int .i64 0, .int .i64 0], .int .i64 21])) := Lib.hid fun W => undo_not ⟨p, f, t, b, a, m⟩ W HP.out HE0.out HU.out
          go_enter Try.func6, Try.ntmps6
          go_wp2_with (first
            | (go_at_call 12; with_reducible refine (awake_true _).mono ?_; rintro e w1 ⟨hb1, rfl⟩; have HB1 : Hid (Below w.heap.size w w1) := Lib.hid (HB0.out.trans (hb1.mono HB0.out.size)); have HX1 := Lib.hid (HX0.out.below hb1 HX0.out.lt); clear hb1)
            | (go_at_call 13; go_loud (with_reducible refine (SH.out _ HB1.out).mono ?_; rintro e w2 ⟨hb2, rfl⟩; have HB2 : Hid (Below w.heap.size w w2) := Lib.hid (HB1.out.trans (hb2.mono HB1.out.size)); have HX2 := Lib.hid (HX1.out.below hb2 HX1.out.lt); obtain ⟨x0, x1, x2, x3, x4, x5⟩ := HX2.out.sixc; clear hb2))
            | (go_at_call 17; go_loud (with_reducible refine (RC.out _ HB2.out).mono ?_; rintro e w3 ⟨hb3, rfl⟩; have HB3 : Hid (Below w.heap.size w w3) := Lib.hid (HB2.out.trans (hb3.mono HB2.out.size)); have HX3 := Lib.hid (HX2.out.below hb3 HX2.out.lt); obtain ⟨x0, x1, x2, x3, x4, x5⟩ := HX3.out.sixc; clear hb3))
            | (go_at_call 28; go_loud (with_reducible refine (M1.out _ HB3.out).mono ?_; rintro e w4 ⟨hb4, A4, c4, rfl, hr4⟩; have HB4 : Hid (Below w.heap.size w w4) := Lib.hid (HB3.out.trans (hb4.mono HB3.out.size)); have HX4 := Lib.hid (HX3.out.below hb4 HX3.out.lt); obtain ⟨x0, x1, x2, x3, x4, x5⟩ := HX4.out.sixc; have HR4 := Lib.hid hr4; have hc4 := hr4.cap; have hm4 := hr4.max; clear hr4; clear hb4))
            | (go_at_call 16; go_loud (with_reducible refine (T1.out _ HB4.out).mono ?_; rintro e w5 ⟨hb5, rfl⟩; have HB5 : Hid (Below w.heap.size w w5) := Lib.hid (HB4.out.trans (hb5.mono HB4.out.size)); have HX5 := Lib.hid (HX4.out.below hb5 HX4.out.lt); obtain ⟨x0, x1, x2, x3, x4, x5⟩ := HX5.out.sixc; have HR5 := Lib.hid (HR4.out.below hb5 (Nat.le_refl _) hb5.size); clear hb5))
            | (go_at_call 16; go_loud (with_reducible refine (T2.out _ _ _ HR5.out).mono ?_; rintro e w6 ⟨hb6, rfl⟩; have HB6 : Hid (Below w.heap.size w w6) := Lib.hid (HB5.out.trans (hb6.mono HB5.out.size)); have HX6 := Lib.hid (HX5.out.below hb6 HX5.out.lt); obtain ⟨x0, x1, x2, x3, x4, x5⟩ := HX6.out.sixc; have HR6 := Lib.hid (HR5.out.below hb6 (Nat.le_refl _) hb6.size); clear hb6))
            | (go_at_call 24; go_loud (with_reducible refine (UN.out _).mono ?_; rintro e w7 ⟨hb7, rfl⟩; have HB7 : Hid (Below w.heap.size w w7) := Lib.hid (HB6.out.trans (hb7.mono HB6.out.size)); have HX7 := Lib.hid (HX6.out.below hb7 HX6.out.lt); obtain ⟨x0, x1, x2, x3, x4, x5⟩ := HX7.out.sixc; have HR7 := Lib.hid (rws_alloc (HR6.out.below hb7 (Nat.le_refl _) hb7.size) (.cells #[.string p, .int .i64 t, .int .i64 f, .int .i64 a, .int .i64 b, .int .i64 m] 41)); have HA7 : Hid (Below w.heap.size w (w7.alloc (.cells #[.string p, .int .i64 t, .int .i64 f, .int .i64 a, .int .i64 b, .int .i64 m] 41))) := Lib.hid (HB7.out.alloc HB7.out.size _); clear hb7)))
          go_ret
          exact ⟨HB7.out.alloc HB7.out.size _, rfl⟩
        · have UN : Hid (∀ W, Calls Try.prog 24 #[.agg #[.string p, .int .i64 f, .int .i64 t, .int .i64 b, .int .i64 a, .int .i64 m]] W fun e w' => Below W.heap.size W w' ∧ e = .returned (.tuple #[.agg #[.string p, .int .i64 t, .int .i64 f, .int .i64 a, .int .i64 b, .int .i64 m], .int .i64 0])) := Lib.hid fun W => undo_ok ⟨p, f, t, b, a, m⟩ W HP.out HE0.out HU.out
          have M2 := Lib.hid (HBK.out HU.out)
          cases M
          · go_enter Try.func6, Try.ntmps6
            go_wp2_with (first
              | (go_at_call 12; with_reducible refine (awake_true _).mono ?_; rintro e w1 ⟨hb1, rfl⟩; have HB1 : Hid (Below w.heap.size w w1) := Lib.hid (HB0.out.trans (hb1.mono HB0.out.size)); have HX1 := Lib.hid (HX0.out.below hb1 HX0.out.lt); clear hb1)
              | (go_at_call 13; go_loud (with_reducible refine (SH.out _ HB1.out).mono ?_; rintro e w2 ⟨hb2, rfl⟩; have HB2 : Hid (Below w.heap.size w w2) := Lib.hid (HB1.out.trans (hb2.mono HB1.out.size)); have HX2 := Lib.hid (HX1.out.below hb2 HX1.out.lt); obtain ⟨x0, x1, x2, x3, x4, x5⟩ := HX2.out.sixc; clear hb2))
              | (go_at_call 17; go_loud (with_reducible refine (RC.out _ HB2.out).mono ?_; rintro e w3 ⟨hb3, rfl⟩; have HB3 : Hid (Below w.heap.size w w3) := Lib.hid (HB2.out.trans (hb3.mono HB2.out.size)); have HX3 := Lib.hid (HX2.out.below hb3 HX2.out.lt); obtain ⟨x0, x1, x2, x3, x4, x5⟩ := HX3.out.sixc; clear hb3))
              | (go_at_call 28; go_loud (with_reducible refine (M1.out _ HB3.out).mono ?_; rintro e w4 ⟨hb4, A4, c4, rfl, hr4⟩; have HB4 : Hid (Below w.heap.size w w4) := Lib.hid (HB3.out.trans (hb4.mono HB3.out.size)); have HX4 := Lib.hid (HX3.out.below hb4 HX3.out.lt); obtain ⟨x0, x1, x2, x3, x4, x5⟩ := HX4.out.sixc; have HR4 := Lib.hid hr4; have hc4 := hr4.cap; have hm4 := hr4.max; clear hr4; clear hb4))
              | (go_at_call 16; go_loud (with_reducible refine (T1.out _ HB4.out).mono ?_; rintro e w5 ⟨hb5, rfl⟩; have HB5 : Hid (Below w.heap.size w w5) := Lib.hid (HB4.out.trans (hb5.mono HB4.out.size)); have HX5 := Lib.hid (HX4.out.below hb5 HX4.out.lt); obtain ⟨x0, x1, x2, x3, x4, x5⟩ := HX5.out.sixc; have HR5 := Lib.hid (HR4.out.below hb5 (Nat.le_refl _) hb5.size); clear hb5))
              | (go_at_call 16; go_loud (with_reducible refine (T2.out _ _ _ HR5.out).mono ?_; rintro e w6 ⟨hb6, rfl⟩; have HB6 : Hid (Below w.heap.size w w6) := Lib.hid (HB5.out.trans (hb6.mono HB5.out.size)); have HX6 := Lib.hid (HX5.out.below hb6 HX5.out.lt); obtain ⟨x0, x1, x2, x3, x4, x5⟩ := HX6.out.sixc; have HR6 := Lib.hid (HR5.out.below hb6 (Nat.le_refl _) hb6.size); clear hb6))
              | (go_at_call 24; go_loud (with_reducible refine (UN.out _).mono ?_; rintro e w7 ⟨hb7, rfl⟩; have HB7 : Hid (Below w.heap.size w w7) := Lib.hid (HB6.out.trans (hb7.mono HB6.out.size)); have HX7 := Lib.hid (HX6.out.below hb7 HX6.out.lt); obtain ⟨x0, x1, x2, x3, x4, x5⟩ := HX7.out.sixc; have HR7 := Lib.hid (rws_alloc (HR6.out.below hb7 (Nat.le_refl _) hb7.size) (.cells #[.string p, .int .i64 t, .int .i64 f, .int .i64 a, .int .i64 b, .int .i64 m] 41)); have HA7 : Hid (Below w.heap.size w (w7.alloc (.cells #[.string p, .int .i64 t, .int .i64 f, .int .i64 a, .int .i64 b, .int .i64 m] 41))) := Lib.hid (HB7.out.alloc HB7.out.size _); clear hb7))
              | (go_at_call 28; go_loud (with_reducible refine (M2.out _ _ _ HR7.out).mono ?_; rintro e w8 ⟨hb8, A8, c8, L8, Z8, rfl, hl8, hr8⟩; obtain ⟨rfl, rfl⟩ := hl8 (by first | exact trivial | rfl); have HR8 := Lib.hid hr8; have hc8 := hr8.cap; have hm8 := hr8.max; have HB8 : Hid (Below w.heap.size w w8) := Lib.hid (HA7.out.trans (hb8.mono HA7.out.size)); clear hb8 hr8 hl8))
              | (go_at_call 14; go_loud (with_reducible refine (NM.out _ HB8.out).mono ?_; rintro e w9 ⟨hb9, A9, c9, rfl, hr9⟩; have HR9 := Lib.hid hr9; have HQ9 := Lib.hid (HR8.out.below hb9 (Nat.le_refl _) hb9.size); have hc9 := hr9.cap; have hm9 := hr9.max; have HB9 : Hid (Below w.heap.size w w9) := Lib.hid (HB8.out.trans (hb9.mono HB8.out.size)); clear hb9 hr9))
              | (go_at_call 20; go_loud (with_reducible refine (sameStock_eq A8 A9 _ _ _ _ w9 HQ9.out HR9.out).mono ?_; rintro e w10 ⟨hb10, rfl⟩; have HB10 : Hid (Below w.heap.size w w10) := Lib.hid (HB9.out.trans (hb10.mono HB9.out.size)); clear hb10)))
            go_ret
            exact ⟨HB10.out, rfl⟩
          · go_enter Try.func6, Try.ntmps6
            go_wp2_with (first
              | (go_at_call 12; with_reducible refine (awake_true _).mono ?_; rintro e w1 ⟨hb1, rfl⟩; have HB1 : Hid (Below w.heap.size w w1) := Lib.hid (HB0.out.trans (hb1.mono HB0.out.size)); have HX1 := Lib.hid (HX0.out.below hb1 HX0.out.lt); clear hb1)
              | (go_at_call 13; go_loud (with_reducible refine (SH.out _ HB1.out).mono ?_; rintro e w2 ⟨hb2, rfl⟩; have HB2 : Hid (Below w.heap.size w w2) := Lib.hid (HB1.out.trans (hb2.mono HB1.out.size)); have HX2 := Lib.hid (HX1.out.below hb2 HX1.out.lt); obtain ⟨x0, x1, x2, x3, x4, x5⟩ := HX2.out.sixc; clear hb2))
              | (go_at_call 17; go_loud (with_reducible refine (RC.out _ HB2.out).mono ?_; rintro e w3 ⟨hb3, rfl⟩; have HB3 : Hid (Below w.heap.size w w3) := Lib.hid (HB2.out.trans (hb3.mono HB2.out.size)); have HX3 := Lib.hid (HX2.out.below hb3 HX2.out.lt); obtain ⟨x0, x1, x2, x3, x4, x5⟩ := HX3.out.sixc; clear hb3))
              | (go_at_call 28; go_loud (with_reducible refine (M1.out _ HB3.out).mono ?_; rintro e w4 ⟨hb4, A4, c4, rfl, hr4⟩; have HB4 : Hid (Below w.heap.size w w4) := Lib.hid (HB3.out.trans (hb4.mono HB3.out.size)); have HX4 := Lib.hid (HX3.out.below hb4 HX3.out.lt); obtain ⟨x0, x1, x2, x3, x4, x5⟩ := HX4.out.sixc; have HR4 := Lib.hid hr4; have hc4 := hr4.cap; have hm4 := hr4.max; clear hr4; clear hb4))
              | (go_at_call 16; go_loud (with_reducible refine (T1.out _ HB4.out).mono ?_; rintro e w5 ⟨hb5, rfl⟩; have HB5 : Hid (Below w.heap.size w w5) := Lib.hid (HB4.out.trans (hb5.mono HB4.out.size)); have HX5 := Lib.hid (HX4.out.below hb5 HX4.out.lt); obtain ⟨x0, x1, x2, x3, x4, x5⟩ := HX5.out.sixc; have HR5 := Lib.hid (HR4.out.below hb5 (Nat.le_refl _) hb5.size); clear hb5))
              | (go_at_call 16; go_loud (with_reducible refine (T2.out _ _ _ HR5.out).mono ?_; rintro e w6 ⟨hb6, rfl⟩; have HB6 : Hid (Below w.heap.size w w6) := Lib.hid (HB5.out.trans (hb6.mono HB5.out.size)); have HX6 := Lib.hid (HX5.out.below hb6 HX5.out.lt); obtain ⟨x0, x1, x2, x3, x4, x5⟩ := HX6.out.sixc; have HR6 := Lib.hid (HR5.out.below hb6 (Nat.le_refl _) hb6.size); clear hb6))
              | (go_at_call 24; go_loud (with_reducible refine (UN.out _).mono ?_; rintro e w7 ⟨hb7, rfl⟩; have HB7 : Hid (Below w.heap.size w w7) := Lib.hid (HB6.out.trans (hb7.mono HB6.out.size)); have HX7 := Lib.hid (HX6.out.below hb7 HX6.out.lt); obtain ⟨x0, x1, x2, x3, x4, x5⟩ := HX7.out.sixc; have HR7 := Lib.hid (rws_alloc (HR6.out.below hb7 (Nat.le_refl _) hb7.size) (.cells #[.string p, .int .i64 t, .int .i64 f, .int .i64 a, .int .i64 b, .int .i64 m] 41)); have HA7 : Hid (Below w.heap.size w (w7.alloc (.cells #[.string p, .int .i64 t, .int .i64 f, .int .i64 a, .int .i64 b, .int .i64 m] 41))) := Lib.hid (HB7.out.alloc HB7.out.size _); clear hb7))
              | (go_at_call 28; go_loud (with_reducible refine (M2.out _ _ _ HR7.out).mono ?_; rintro e w8 ⟨hb8, A8, c8, L8, Z8, rfl, -, hr8⟩; have HB8 : Hid (Below w.heap.size w w8) := Lib.hid (HA7.out.trans (hb8.mono HA7.out.size)); clear hb8 hr8))
              | (go_at_call 14; go_loud (with_reducible refine (NM.out _ HB8.out).mono ?_; rintro e w9 ⟨hb9, A9, c9, rfl, hr9⟩; have HB9 : Hid (Below w.heap.size w w9) := Lib.hid (HB8.out.trans (hb9.mono HB8.out.size)); clear hb9 hr9)))
            go_ret
            exact ⟨HB9.out, rfl⟩

end Go.Proofs.Ytmcefodfppdajaa
