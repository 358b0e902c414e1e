/- The walk of Divide. -/
import Derived.Test.YtfnibkodccfocaaGreatSum
import Derived.Test.YtfnibkodccfocaaGreatDiff
import Derived.Test.YtfnibkodccfocaaGreatProd
namespace Go.Proofs.YtfnibkodccfocaaGreat
open Go.RowKit

theorem divide_pos {a b : Nat} (t : Bool) (hb : 0 < b) (h : t = false ∨ a % b = 0) : sg t a / (b : Int) = sg t (a / b) ∧ sg t a % (b : Int) = ((a % b : Nat) : Int) := by
  have hm := Nat.mod_lt a hb
  have hd : ((b : Int) * (a / b : Nat) + (a % b : Nat) : Int) = (a : Int) := by exact_mod_cast Nat.div_add_mod a b
  generalize a / b = q at *
  generalize a % b = r at *
  rcases h with rfl | rfl
  · rw [sg_false, sg_false, Int.ediv_emod_unique (by omega)]
    refine ⟨by omega, by omega, by omega⟩
  · cases t
    · rw [sg_false, sg_false, Int.ediv_emod_unique (by omega)]
      refine ⟨by omega, by omega, by omega⟩
    · rw [sg_true, sg_true, Int.ediv_emod_unique (by omega)]
      refine ⟨by rw [Int.mul_neg]; omega, by omega, by omega⟩
theorem divide_neg {a b : Nat} (hb : 0 < b) (h : a % b ≠ 0) : sg true a / (b : Int) = sg true (a / b + 1) ∧ sg true a % (b : Int) = ((b - a % b : Nat) : Int) := by
  have hm := Nat.mod_lt a hb
  have hd : ((b : Int) * (a / b : Nat) + (a % b : Nat) : Int) = (a : Int) := by exact_mod_cast Nat.div_add_mod a b
  generalize a / b = q at *
  generalize a % b = r at *
  rw [sg_true, sg_true, Int.ediv_emod_unique (by omega)]
  refine ⟨?_, by omega, by omega⟩
  rw [Int.mul_neg, Int.natCast_add, Int.mul_add]
  omega
theorem divide_sg {x : Int} {t u : Bool} {b q : Nat} {r : Int} (h : x / (b : Int) = sg t q ∧ x % (b : Int) = r) : x / sg u b = sg (t != u) q ∧ x % sg u b = r := by
  cases u
  · rw [sg_false, Bool.bne_false]; exact h
  · rw [sg_true, Int.ediv_neg, Int.emod_neg, h.1, h.2]
    refine ⟨?_, rfl⟩
    cases t <;> simp [sg]

/-- What Divide leaves. -/
def DivideR (x y : Int) (w : World) (e : Ending) (w' : World) : Prop :=
  Below w.heap.size w w' ∧ ∃ u v, ((y = 0 ∧ u = .agg #[.bool false, .slice none 0 0] ∧ v = .agg #[.bool false, .slice none 0 0] ∧ e = .returned (.tuple #[u, v, .int .i64 9])) ∨
    (y ≠ 0 ∧ IntAt w' w'.heap.size u (x / y) ∧ IntAt w' w'.heap.size v (x % y) ∧ e = .returned (.tuple #[u, v, .int .i64 0])))

theorem alloc4_below (w : World) (o p q r : Obj) : Below w.heap.size w ((((w.alloc o).alloc p).alloc q).alloc r) := (alloc3_below w o p q).alloc (by simp; omega) _


set_option maxRecDepth 100000 in
set_option maxHeartbeats 16000000 in
theorem divideInt_any (s1 s2 : Bool) (A1 A2 : Option Addr) (n1 c1 n2 c2 : Nat) (l1 l2 : List Nat) (w : World) (h1 : Lim w w.heap.size A1 n1 c1 l1) (h2 : Lim w w.heap.size A2 n2 c2 l2) (b1 : n1 ≤ 536870912) (b2 : n2 ≤ 536870912) :
    Calls Tryz.prog 20 #[.agg #[.bool s1, .slice A1 n1 c1], .agg #[.bool s2, .slice A2 n2 c2]] w (DivideR (sg s1 (val l1)) (sg s2 (val l2)) w) := by
  have H1 : Hid (∀ w', Below w.heap.size w w' → Lim w' w'.heap.size A1 n1 c1 l1) := fun w' hb => h1.below hb (Nat.le_refl _) hb.size
  have H2 : Hid (∀ w', Below w.heap.size w w' → Lim w' w'.heap.size A2 n2 c2 l2) := fun w' hb => h2.below hb (Nat.le_refl _) hb.size
  have HN1 := Lib.hid h1.len
  have HN2 := Lib.hid h2.len
  clear h1 h2
  go_enter Tryz.func20, Tryz.ntmps20
  go_upto_region 1 with fail
  go_cut [] (fun wx => ReadTwo ((((w.alloc (.cells #[.bool s1, .slice A1 n1 c1] 24)).alloc (.cells #[.bool s2, .slice A2 n2 c2] 24)).alloc (.cells #[.bool false, .slice none 0 0] 24)).alloc (.cells #[.bool false, .slice none 0 0] 24)) w.heap.size (w.heap.size + 1) s1 s2 A1 A2 n1 c1 n2 c2 l1 l2 wx)
  case first =>
    go_region_with (first
      | (go_at_call_of 52 (Value.agg #[.bool s1, .slice A1 n1 c1]); refine (read_any s1 A1 n1 c1 l1 _ (H1.out _ (by repeat (first | exact Below.refl _ _ | assumption | refine Below.drew ?_ | refine Below.drewN ?_ _ | refine Below.alloc ?_ (by simp <;> omega) _ | refine Below.setCell ?_ (by simp <;> omega) _)))).mono ?_; rintro e wa ⟨hba, sa, ma, rfl, hma, hva, hna, rfl⟩; obtain ⟨hca, hfa⟩ := bcell hba; have hza := hba.size; (try simp at hza); have hBa : Below w.heap.size w wa := Below.trans (by repeat (first | exact Below.refl _ _ | assumption | refine Below.drew ?_ | refine Below.drewN ?_ _ | refine Below.alloc ?_ (by simp <;> omega) _ | refine Below.setCell ?_ (by simp <;> omega) _)) (hba.mono (by first | (simp; omega) | omega)); have oaa : w.heap.size < wa.heap.size := (by omega); have oba : w.heap.size + 1 < wa.heap.size := (by omega))
      | (go_at_call_of 52 (Value.agg #[.bool s2, .slice A2 n2 c2]); refine (read_any s2 A2 n2 c2 l2 _ (H2.out _ (by repeat (first | exact Below.refl _ _ | assumption | refine Below.drew ?_ | refine Below.drewN ?_ _ | refine Below.alloc ?_ (by simp <;> omega) _ | refine Below.setCell ?_ (by simp <;> omega) _)))).mono ?_; rintro e wb ⟨hbb, sb, mb, rfl, hmb, hvb, hnb, rfl⟩; obtain ⟨hcb, hfb⟩ := bcell hbb; have hzb := hbb.size; (try simp at hzb); have hBb : Below w.heap.size w wb := Below.trans (by repeat (first | exact Below.refl _ _ | assumption | refine Below.drew ?_ | refine Below.drewN ?_ _ | refine Below.alloc ?_ (by simp <;> omega) _ | refine Below.setCell ?_ (by simp <;> omega) _)) (hbb.mono (by first | (simp; omega) | omega)); have oab : w.heap.size < wb.heap.size := (by omega); have obb : w.heap.size + 1 < wb.heap.size := (by omega)))
    all_goals
      have b1 : Bk wb w.heap.size 24 #[.bool s1, .slice A1 n1 c1] := (hbb.block _ oaa).trans ((hba.block _ (by first | (simp; done) | (simp; omega) | omega)).trans ((((Bk.alloc_ w 24 #[.bool s1, .slice A1 n1 c1]).alloc _).alloc _).alloc _))
      have b2 : Bk wb (w.heap.size + 1) 24 #[.bool s2, .slice A2 n2 c2] := (hbb.block _ oba).trans ((hba.block _ (by first | (simp; done) | (simp; omega) | omega)).trans (((alloc2_bk w _ _ _).alloc _).alloc _))
      have hst := store_two (x := .bool (s1 && decide (0 < ma))) (y := .slice A1 ma c1) (z := .bool (s2 && decide (0 < mb))) (u := .slice A2 mb c2) b1 b2 (by omega)
        (Fr.of_below (S := fun k => k = w.heap.size ∨ k = w.heap.size + 1) (w := ((((w.alloc (.cells #[.bool s1, .slice A1 n1 c1] 24)).alloc (.cells #[.bool s2, .slice A2 n2 c2] 24)).alloc (.cells #[.bool false, .slice none 0 0] 24)).alloc (.cells #[.bool false, .slice none 0 0] 24))) ((((Below.refl _ _).drew).trans hba).trans (hbb.mono (by first | (simp; done) | (simp; omega) | omega))))
      have HST := Lib.hid hst
      clear b1 b2 hst hca hcb hfa hfb hza hzb
      go_wp2_with fail
      go_meet
      exact ⟨ma, mb, hma, hva, hna, hmb, hvb, hnb, HST.out⟩
  case rest =>
    obtain ⟨m1, m2, hm1, hv1, hn1, hm2, hv2, hn2, k1, k2, hf⟩ := hcut
    obtain ⟨z1, p1⟩ := sg_read (s := s1) hv1 hn1 (by rw [HN1.out]; exact hm1)
    obtain ⟨z2, p2⟩ := sg_read (s := s2) hv2 hn2 (by rw [HN2.out]; exact hm2)
    generalize (s1 && decide (0 < m1)) = t1 at z1 p1 k1
    generalize (s2 && decide (0 < m2)) = t2 at z2 p2 k2
    have hbw : Below w.heap.size w wc := Below.trans (alloc4_below _ _ _ _ _) (hf.below (by first | (simp; done) | (simp; omega) | omega) (fun k hk h => by rcases h with h | h <;> omega))
    have L1 := (H1.out wc hbw).take hm1
    have L2 := (H2.out wc hbw).take hm2
    have e10 : wc.cell? ⟨w.heap.size, 0, none⟩ = some (.bool t1) := by simpa using k1.cell 0
    have e11 : wc.cell? ⟨w.heap.size, 1, none⟩ = some (.slice A1 m1 c1) := by simpa using k1.cell 1
    have e20 : wc.cell? ⟨w.heap.size + 1, 0, none⟩ = some (.bool t2) := by simpa using k2.cell 0
    have e21 : wc.cell? ⟨w.heap.size + 1, 1, none⟩ = some (.slice A2 m2 c2) := by simpa using k2.cell 1
    have Z1 := Lib.hid z1
    have Z2 := Lib.hid z2
    have HB := Lib.hid hbw
    have HF := Lib.hid hf
    have KK1 := Lib.hid k1
    have KK2 := Lib.hid k2
    clear z1 z2 hbw hf k1 k2 hv1 hv2
    have k1 : Bk wc w.heap.size 24 #[.bool t1, .slice A1 m1 c1] := KK1.out
    have k2 : Bk wc (w.heap.size + 1) 24 #[.bool t2, .slice A2 m2 c2] := KK2.out
    have k3 : Bk wc (w.heap.size + 2) 24 #[.bool false, .slice none 0 0] := (HF.out.block (w.heap.size + 2) (by simp) (fun h => by rcases h with h | h <;> omega)).trans (by have h := (Bk.alloc_ ((w.alloc (.cells #[.bool s1, .slice A1 n1 c1] 24)).alloc (.cells #[.bool s2, .slice A2 n2 c2] 24)) 24 #[.bool false, .slice none 0 0]).alloc (.cells #[.bool false, .slice none 0 0] 24); rw [World.size_alloc, World.size_alloc] at h; exact h)
    have k4 : Bk wc (w.heap.size + 3) 24 #[.bool false, .slice none 0 0] := (HF.out.block (w.heap.size + 3) (by simp) (fun h => by rcases h with h | h <;> omega)).trans (by have h := Bk.alloc_ (((w.alloc (.cells #[.bool s1, .slice A1 n1 c1] 24)).alloc (.cells #[.bool s2, .slice A2 n2 c2] 24)).alloc (.cells #[.bool false, .slice none 0 0] 24)) 24 #[.bool false, .slice none 0 0]; rw [World.size_alloc, World.size_alloc, World.size_alloc] at h; exact h)
    have KEEP : Hid (∀ w', Below wc.heap.size wc w' → Bk w' w.heap.size 24 #[.bool t1, .slice A1 m1 c1] ∧ Bk w' (w.heap.size + 1) 24 #[.bool t2, .slice A2 m2 c2] ∧ Bk w' (w.heap.size + 2) 24 #[.bool false, .slice none 0 0] ∧ Bk w' (w.heap.size + 3) 24 #[.bool false, .slice none 0 0] ∧
        w'.cell? ⟨w.heap.size, 0, none⟩ = some (.bool t1) ∧ w'.cell? ⟨w.heap.size, 1, none⟩ = some (.slice A1 m1 c1) ∧ w'.cell? ⟨w.heap.size + 1, 0, none⟩ = some (.bool t2) ∧ w'.cell? ⟨w.heap.size + 1, 1, none⟩ = some (.slice A2 m2 c2) ∧
        w'.cell? ⟨w.heap.size + 2, 0, none⟩ = some (.bool false) ∧ w'.cell? ⟨w.heap.size + 2, 1, none⟩ = some (.slice none 0 0) ∧ w'.cell? ⟨w.heap.size + 3, 0, none⟩ = some (.bool false) ∧ w'.cell? ⟨w.heap.size + 3, 1, none⟩ = some (.slice none 0 0) ∧
        w'.frozen? ⟨w.heap.size + 2, 0, none⟩ = false ∧ w'.frozen? ⟨w.heap.size + 2, 1, none⟩ = false ∧ w'.frozen? ⟨w.heap.size + 3, 0, none⟩ = false ∧ w'.frozen? ⟨w.heap.size + 3, 1, none⟩ = false) := by
      intro w' hb
      have r1 := k1.below hb k1.lt
      have r2 := k2.below hb k2.lt
      have r3 := k3.below hb k3.lt
      have r4 := k4.below hb k4.lt
      exact ⟨r1, r2, r3, r4, by simpa using r1.cell 0, by simpa using r1.cell 1, by simpa using r2.cell 0, by simpa using r2.cell 1, by simpa using r3.cell 0, by simpa using r3.cell 1, by simpa using r4.cell 0, by simpa using r4.cell 1, r3.frozen 0, r3.frozen 1, r4.frozen 0, r4.frozen 1⟩
    have hsz := k4.lt
    clear k1 k2 k3 k4 e10 e11
    go_wp2_with fail
    refine (isZero_any t2 A2 m2 c2 (l2.take m2) wc L2).mono ?_
    rintro e wd ⟨rfl, hbd⟩
    have LL1 := L1.below hbd (Nat.le_refl _) hbd.size
    have LL2 := L2.below hbd (Nat.le_refl _) hbd.size
    obtain ⟨_, _, r3, r4, c10, c11, c20, c21, c30, c31, c40, c41, f30, f31, f40, f41⟩ := KEEP.out wd hbd
    have HBD := Lib.hid (HB.out.trans (hbd.mono (by have := HB.out.size; omega)))
    have HBD2 := Lib.hid hbd
    clear e20 e21 hbd L1 L2
    by_cases hz : val (l2.take m2) = 0
    · have hd : decide (val (l2.take m2) = 0) = true := by simpa using hz
      have hz2 : Hid (sg s2 (val l2) = 0) := by
        show _ = _
        rw [← Z2.out, hz]; cases t2 <;> rfl
      rw [hd]
      clear hz hd
      go_wp2
      refine bodyPost_ret (v := .tuple #[.agg #[.bool false, .slice none 0 0], .agg #[.bool false, .slice none 0 0], .int .i64 9]) (by simp [results, Tryz.results20, go_sem, c30, c31, c40, c41]) rfl ⟨(((HBD.out.setCell (by simp; omega) _).setCell (by simp; omega) _).setCell (by simp; omega) _).setCell (by simp; omega) _, _, _, .inl ⟨hz2.out, rfl, rfl, rfl⟩⟩
    · have hd : decide (val (l2.take m2) = 0) = false := by simpa using hz
      rw [hd]
      have HZ := Lib.hid hz
      clear hd hz
      go_wp2_with fail
      refine (divideLimbs_any m1 c1 m2 c2 A1 A2 _ _ wd LL1 hn1 LL2 hn2 (Nat.pos_of_ne_zero HZ.out) (by omega)).mono ?_
      rintro e we ⟨hbe, vq, vr, rfl, ⟨Aq, nq, cq, lq, rfl, hlq, hnq, hvq⟩, ⟨Ar, nr, cr, lr, rfl, hlr, hnr', hvr⟩⟩
      have HLQ := Lib.hid hlq
      have HLR := Lib.hid hlr
      have HVQ := Lib.hid hvq
      have HVR := Lib.hid hvr
      have hb0 : 0 < val (l2.take m2) := Nat.pos_of_ne_zero HZ.out
      have hy0 : sg s2 (val l2) ≠ 0 := by
        rw [← Z2.out]; cases t2 <;> simp [sg] <;> omega
      have HY0 := Lib.hid hy0
      have HB0 := Lib.hid hb0
      have HBE := Lib.hid (HBD.out.trans (hbe.mono (by have := HBD.out.size; omega)))
      have HBE2 := Lib.hid (HBD2.out.trans (hbe.mono HBD2.out.size))
      obtain ⟨_, _, _, _, k10, k11, k20, k21, _, _, _, _, _, _, _, _⟩ := KEEP.out we HBE2.out
      have hrl := hlr.len
      have HBE3 := Lib.hid hbe
      clear hlq hlr hvq hvr hb0 hy0 hbe c10 c11 c20 c21 c30 c31 c40 c41 f30 f31 f40 f41 r3 r4
      by_cases hadj : t1 = true ∧ 0 < nr
      · obtain ⟨rfl, hnr⟩ := hadj
        have hd1 : decide (0 < nr) = true := by simpa using hnr
        have hrne : val (l1.take m1) % val (l2.take m2) ≠ 0 := by
          rw [← HVR.out]
          have := norm_val_pos hnr' (by intro e; have h := HLR.out.len; rw [e] at h; simp at h; omega)
          omega
        have hmod := Nat.mod_lt (val (l1.take m1)) HB0.out
        have HRNE := Lib.hid hrne
        have HMOD := Lib.hid hmod
        have hone : Lim (we.alloc (.cells #[.int .u32 1] 75)) (we.heap.size + 1) (some ⟨we.heap.size, 0, none⟩) 1 1 [1] := by
          have h1 : Buf (we.alloc (.cells #[.int .u32 1] 75)) we.heap.size 75 [1] := ⟨by have := Bk.alloc_ we 75 #[.int .u32 1]; simpa [u32s] using this, Bd.nil.cons (by omega)⟩
          exact h1.lim (n := 1) (c := 1) (by omega) (by omega) (by omega) (by simp)
        have hq1 : nq ≤ 536870912 := by
          have h1 := HVQ.out
          have h2 : lq.length ≤ m1 := by
            apply norm_len_le hnq
            rw [h1]
            exact Nat.lt_of_le_of_lt (Nat.div_le_self _ _) (by have := val_lt LL1.bd; rwa [LL1.len] at this)
          rw [HLQ.out.len] at h2; omega
        have hadd := addLimbs_any Aq (some ⟨we.heap.size, 0, none⟩) nq cq 1 1 lq [1] (we.alloc (.cells #[.int .u32 1] 75)) (HLQ.out.alloc _ (Nat.le_refl _) (by simp)) (hone.mono (by simp)) (by omega) (by omega)
        have HADD := Lib.hid hadd
        clear hrne hmod hone hadd
        go_wp2_with fail
        refine HADD.out.mono ?_
        rintro e wf ⟨hbf, Aq', nq', cq', lq', rfl, hlq', hnq', hvq'⟩
        have hbf2 : Below we.heap.size we wf := ((Below.refl _ _).alloc (Nat.le_refl _) _).trans (hbf.mono (by simp))
        obtain ⟨_, _, _, _, k10, k11, k20, k21, _, _, _, _, _, _, _, _⟩ := KEEP.out wf (HBE2.out.trans (hbf2.mono HBE2.out.size))
        have HBF2 := Lib.hid hbf2
        have HLQ' := Lib.hid hlq'
        have HVQ' := Lib.hid hvq'
        have LL2f := (LL2.below HBE3.out (Nat.le_refl _) HBE3.out.size).below hbf2 (Nat.le_refl _) hbf2.size
        have LRf := HLR.out.below hbf2 (Nat.le_refl _) hbf2.size
        have hsub := subtractLimbs_any A2 Ar m2 c2 nr cr _ lr wf LL2f LRf (by rw [HVR.out]; exact Nat.le_of_lt HMOD.out) hnr' (by omega)
        have HSUB := Lib.hid hsub
        clear hbf hbf2 hlq' hvq' LL2f LRf hsub
        go_wp2_with fail
        refine HSUB.out.mono ?_
        rintro e wh ⟨hbh, Ar', nr', cr', lr', rfl, hlr', hnr2, hvr'⟩
        have HBX := Lib.hid (HBE.out.trans ((HBF2.out.trans (hbh.mono HBF2.out.size)).mono (by have := HBE.out.size; omega)))
        have HBX2 := Lib.hid (HBE2.out.trans ((HBF2.out.trans (hbh.mono HBF2.out.size)).mono HBE2.out.size))
        have HLQX := Lib.hid (HLQ'.out.below hbh (Nat.le_refl _) hbh.size)
        have HLRX := Lib.hid hlr'
        have HVRX := Lib.hid hvr'
        obtain ⟨_, _, _, _, k10, k11, k20, k21, _, _, _, _, _, _, _, _⟩ := KEEP.out wh HBX2.out
        clear hbh hlr' hvr'
        go_wp2_with fail
        refine (signed_any _ _ _ _ _).mono ?_
        rintro e wx ⟨rfl, hbx⟩
        go_wp2_with fail
        refine (signed_any _ _ _ _ _).mono ?_
        rintro e wy ⟨rfl, hby⟩
        have hbxy : Below (wh).heap.size wh wy := hbx.trans (hby.mono hbx.size)
        obtain ⟨_, _, r3, r4, _, _, _, _, c30, c31, c40, c41, f30, f31, f40, f41⟩ := KEEP.out wy (HBX2.out.trans (hbxy.mono HBX2.out.size))
        have hbel : Below w.heap.size w wy := HBX.out.trans (hbxy.mono (by have := HBX.out.size; omega))
        have hlq9 := HLQX.out.below hbxy (Nat.le_refl _) hbxy.size
        have hlr9 := HLRX.out.below hbxy (Nat.le_refl _) hbxy.size
        have r3x : Bk wy (w.heap.size + 1 + 1) 24 #[.bool false, .slice none 0 0] := r3
        have r4' : Bk ((wy.setCell ⟨w.heap.size + 1 + 1, 0, none⟩ (.bool ((!t2) && decide (0 < nq')))).setCell ⟨w.heap.size + 1 + 1, 1, none⟩ (.slice Aq' nq' cq')) (w.heap.size + 1 + 1 + 1) 24 #[.bool false, .slice none 0 0] :=
          (r4.other (p := ⟨w.heap.size + 2, 0, none⟩) (by simp) _).other (p := ⟨w.heap.size + 2, 1, none⟩) (by simp) _
        have HQ9 := Lib.hid ((hlq9.past r3x (.bool ((!t2) && decide (0 < nq'))) (.slice Aq' nq' cq')).past r4' (.bool false) (.slice Ar' nr' cr'))
        have HR9 := Lib.hid ((hlr9.past r3x (.bool ((!t2) && decide (0 < nq'))) (.slice Aq' nq' cq')).past r4' (.bool false) (.slice Ar' nr' cr'))
        have HBEL := Lib.hid hbel
        clear r3 r3x r4 r4' hlq9 hlr9 hbel hbxy hbx hby
        go_wp2
        refine bodyPost_ret (v := .tuple #[.agg #[.bool ((!t2) && decide (0 < nq')), .slice Aq' nq' cq'], .agg #[.bool false, .slice Ar' nr' cr'], .int .i64 0]) (by simp [results, Tryz.results20, go_sem, c30, c31, c40, c41]) rfl ⟨(((HBEL.out.setCell (by simp; omega) _).setCell (by simp; omega) _).setCell (by simp; omega) _).setCell (by simp; omega) _, _, _, .inr ⟨HY0.out, mkInt (HQ9.out.mono (by simp)) hnq' (by show _ = _; rw [← Z1.out, ← Z2.out, (divide_sg (u := t2) (divide_neg HB0.out HRNE.out)).1, HVQ'.out, HVQ.out]; simp [val]), mkInt (t := false) (HR9.out.mono (by simp)) hnr2 (by show _ = _; rw [← Z1.out, ← Z2.out, (divide_sg (u := t2) (divide_neg HB0.out HRNE.out)).2, HVRX.out, HVR.out]; rfl), rfl⟩⟩
      · have HBX := HBE
        have HBX2 := HBE2
        have HLQX := HLQ
        have HLRX := HLR
        cases t1
        · clear hadj
          go_wp2_with fail
          refine (signed_any _ _ _ _ _).mono ?_
          rintro e wx ⟨rfl, hbx⟩
          go_wp2_with fail
          refine (signed_any _ _ _ _ _).mono ?_
          rintro e wy ⟨rfl, hby⟩
          have hbxy : Below (we).heap.size we wy := hbx.trans (hby.mono hbx.size)
          obtain ⟨_, _, r3, r4, _, _, _, _, c30, c31, c40, c41, f30, f31, f40, f41⟩ := KEEP.out wy (HBX2.out.trans (hbxy.mono HBX2.out.size))
          have hbel : Below w.heap.size w wy := HBX.out.trans (hbxy.mono (by have := HBX.out.size; omega))
          have hlq9 := HLQX.out.below hbxy (Nat.le_refl _) hbxy.size
          have hlr9 := HLRX.out.below hbxy (Nat.le_refl _) hbxy.size
          have r3x : Bk wy (w.heap.size + 1 + 1) 24 #[.bool false, .slice none 0 0] := r3
          have r4' : Bk ((wy.setCell ⟨w.heap.size + 1 + 1, 0, none⟩ (.bool (t2 && decide (0 < nq)))).setCell ⟨w.heap.size + 1 + 1, 1, none⟩ (.slice Aq nq cq)) (w.heap.size + 1 + 1 + 1) 24 #[.bool false, .slice none 0 0] :=
            (r4.other (p := ⟨w.heap.size + 2, 0, none⟩) (by simp) _).other (p := ⟨w.heap.size + 2, 1, none⟩) (by simp) _
          have HQ9 := Lib.hid ((hlq9.past r3x (.bool (t2 && decide (0 < nq))) (.slice Aq nq cq)).past r4' (.bool false) (.slice Ar nr cr))
          have HR9 := Lib.hid ((hlr9.past r3x (.bool (t2 && decide (0 < nq))) (.slice Aq nq cq)).past r4' (.bool false) (.slice Ar nr cr))
          have HBEL := Lib.hid hbel
          clear r3 r3x r4 r4' hlq9 hlr9 hbel hbxy hbx hby
          go_wp2
          refine bodyPost_ret (v := .tuple #[.agg #[.bool (t2 && decide (0 < nq)), .slice Aq nq cq], .agg #[.bool false, .slice Ar nr cr], .int .i64 0]) (by simp [results, Tryz.results20, go_sem, c30, c31, c40, c41]) rfl ⟨(((HBEL.out.setCell (by simp; omega) _).setCell (by simp; omega) _).setCell (by simp; omega) _).setCell (by simp; omega) _, _, _, .inr ⟨HY0.out, mkInt (HQ9.out.mono (by simp)) hnq (by show _ = _; rw [← Z1.out, ← Z2.out, (divide_sg (u := t2) (divide_pos false HB0.out (.inl rfl))).1, HVQ.out]; simp), mkInt (t := false) (HR9.out.mono (by simp)) hnr' (by show _ = _; rw [← Z1.out, ← Z2.out, (divide_sg (u := t2) (divide_pos false HB0.out (.inl rfl))).2, HVR.out]; rfl), rfl⟩⟩
        · have hn0 : nr = 0 := by
            rcases Nat.eq_zero_or_pos nr with h | h
            · exact h
            · exact absurd ⟨rfl, h⟩ hadj
          have hd1 : decide (0 < nr) = false := by simp [hn0]
          have hr0 : val (l1.take m1) % val (l2.take m2) = 0 := by
            rw [← HVR.out]
            have : lr = [] := List.eq_nil_of_length_eq_zero (by rw [HLR.out.len, hn0])
            rw [this]; rfl
          have HR0 := Lib.hid hr0
          clear hadj hn0 hr0
          go_wp2_with fail
          refine (signed_any _ _ _ _ _).mono ?_
          rintro e wx ⟨rfl, hbx⟩
          go_wp2_with fail
          refine (signed_any _ _ _ _ _).mono ?_
          rintro e wy ⟨rfl, hby⟩
          have hbxy : Below (we).heap.size we wy := hbx.trans (hby.mono hbx.size)
          obtain ⟨_, _, r3, r4, _, _, _, _, c30, c31, c40, c41, f30, f31, f40, f41⟩ := KEEP.out wy (HBX2.out.trans (hbxy.mono HBX2.out.size))
          have hbel : Below w.heap.size w wy := HBX.out.trans (hbxy.mono (by have := HBX.out.size; omega))
          have hlq9 := HLQX.out.below hbxy (Nat.le_refl _) hbxy.size
          have hlr9 := HLRX.out.below hbxy (Nat.le_refl _) hbxy.size
          have r3x : Bk wy (w.heap.size + 1 + 1) 24 #[.bool false, .slice none 0 0] := r3
          have r4' : Bk ((wy.setCell ⟨w.heap.size + 1 + 1, 0, none⟩ (.bool ((!t2) && decide (0 < nq)))).setCell ⟨w.heap.size + 1 + 1, 1, none⟩ (.slice Aq nq cq)) (w.heap.size + 1 + 1 + 1) 24 #[.bool false, .slice none 0 0] :=
            (r4.other (p := ⟨w.heap.size + 2, 0, none⟩) (by simp) _).other (p := ⟨w.heap.size + 2, 1, none⟩) (by simp) _
          have HQ9 := Lib.hid ((hlq9.past r3x (.bool ((!t2) && decide (0 < nq))) (.slice Aq nq cq)).past r4' (.bool false) (.slice Ar nr cr))
          have HR9 := Lib.hid ((hlr9.past r3x (.bool ((!t2) && decide (0 < nq))) (.slice Aq nq cq)).past r4' (.bool false) (.slice Ar nr cr))
          have HBEL := Lib.hid hbel
          clear r3 r3x r4 r4' hlq9 hlr9 hbel hbxy hbx hby
          go_wp2
          refine bodyPost_ret (v := .tuple #[.agg #[.bool ((!t2) && decide (0 < nq)), .slice Aq nq cq], .agg #[.bool false, .slice Ar nr cr], .int .i64 0]) (by simp [results, Tryz.results20, go_sem, c30, c31, c40, c41]) rfl ⟨(((HBEL.out.setCell (by simp; omega) _).setCell (by simp; omega) _).setCell (by simp; omega) _).setCell (by simp; omega) _, _, _, .inr ⟨HY0.out, mkInt (HQ9.out.mono (by simp)) hnq (by show _ = _; rw [← Z1.out, ← Z2.out, (divide_sg (u := t2) (divide_pos true HB0.out (.inr HR0.out))).1, HVQ.out]; simp), mkInt (t := false) (HR9.out.mono (by simp)) hnr' (by show _ = _; rw [← Z1.out, ← Z2.out, (divide_sg (u := t2) (divide_pos true HB0.out (.inr HR0.out))).2, HVR.out]; rfl), rfl⟩⟩

end Go.Proofs.YtfnibkodccfocaaGreat
