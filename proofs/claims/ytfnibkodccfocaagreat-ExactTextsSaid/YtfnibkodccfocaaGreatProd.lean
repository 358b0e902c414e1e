/- The walk of Prod. -/
import Derived.Test.YtfnibkodccfocaaGreatSum
import Derived.Test.YtfnibkodccfocaaGreatMultiply
namespace Go.Proofs.YtfnibkodccfocaaGreat
open Go.RowKit

theorem prod_sg (a b : Bool) (x y : Nat) : sg a x * sg b y = sg (a != b) (x * y) := by cases a <;> cases b <;> simp [sg, Int.mul_neg, Int.neg_mul]

set_option maxRecDepth 100000 in
set_option maxHeartbeats 16000000 in
theorem prod_any (s1 s2 : Bool) (A1 A2 : Option Addr) (n1 c1 n2 c2 : Nat) (l1 l2 : List Nat) (w : World) (h1 : Lim w w.heap.size A1 n1 c1 l1) (h2 : Lim w w.heap.size A2 n2 c2 l2) (b1 : n1 ≤ 536870912) (b2 : n2 ≤ 536870912) :
    Calls Tryz.prog 18 #[.agg #[.bool s1, .slice A1 n1 c1], .agg #[.bool s2, .slice A2 n2 c2]] w (IntR (sg s1 (val l1) * sg s2 (val l2)) w) := by
  have H1 : Hid (∀ w', Below w.heap.size w w' → Lim w' w'.heap.size A1 n1 c1 l1) := fun w' hb => h1.below hb (Nat.le_refl _) hb.size
  have H2 : Hid (∀ w', Below w.heap.size w w' → Lim w' w'.heap.size A2 n2 c2 l2) := fun w' hb => h2.below hb (Nat.le_refl _) hb.size
  have HN1 := Lib.hid h1.len
  have HN2 := Lib.hid h2.len
  clear h1 h2
  go_enter Tryz.func18, Tryz.ntmps18
  go_upto_region 1 with fail
  go_cut [] (fun wx => ReadTwo (((w.alloc (.cells #[.bool s1, .slice A1 n1 c1] 24)).alloc (.cells #[.bool s2, .slice A2 n2 c2] 24)).alloc (.cells #[.bool false, .slice none 0 0] 24)) w.heap.size (w.heap.size + 1) s1 s2 A1 A2 n1 c1 n2 c2 l1 l2 wx)
  case first =>
    go_region_with (first
      | (go_at_call_of 52 (Value.agg #[.bool s1, .slice A1 n1 c1]); refine (read_any s1 A1 n1 c1 l1 _ (H1.out _ (by repeat (first | exact Below.refl _ _ | assumption | refine Below.drew ?_ | refine Below.drewN ?_ _ | refine Below.alloc ?_ (by simp <;> omega) _ | refine Below.setCell ?_ (by simp <;> omega) _)))).mono ?_; rintro e wa ⟨hba, sa, ma, rfl, hma, hva, hna, rfl⟩; obtain ⟨hca, hfa⟩ := bcell hba; have hza := hba.size; (try simp at hza); have hBa : Below w.heap.size w wa := Below.trans (by repeat (first | exact Below.refl _ _ | assumption | refine Below.drew ?_ | refine Below.drewN ?_ _ | refine Below.alloc ?_ (by simp <;> omega) _ | refine Below.setCell ?_ (by simp <;> omega) _)) (hba.mono (by first | (simp; omega) | omega)); have oaa : w.heap.size < wa.heap.size := (by omega); have oba : w.heap.size + 1 < wa.heap.size := (by omega))
      | (go_at_call_of 52 (Value.agg #[.bool s2, .slice A2 n2 c2]); refine (read_any s2 A2 n2 c2 l2 _ (H2.out _ (by repeat (first | exact Below.refl _ _ | assumption | refine Below.drew ?_ | refine Below.drewN ?_ _ | refine Below.alloc ?_ (by simp <;> omega) _ | refine Below.setCell ?_ (by simp <;> omega) _)))).mono ?_; rintro e wb ⟨hbb, sb, mb, rfl, hmb, hvb, hnb, rfl⟩; obtain ⟨hcb, hfb⟩ := bcell hbb; have hzb := hbb.size; (try simp at hzb); have hBb : Below w.heap.size w wb := Below.trans (by repeat (first | exact Below.refl _ _ | assumption | refine Below.drew ?_ | refine Below.drewN ?_ _ | refine Below.alloc ?_ (by simp <;> omega) _ | refine Below.setCell ?_ (by simp <;> omega) _)) (hbb.mono (by first | (simp; omega) | omega)); have oab : w.heap.size < wb.heap.size := (by omega); have obb : w.heap.size + 1 < wb.heap.size := (by omega)))
    all_goals
      have b1 : Bk wb w.heap.size 24 #[.bool s1, .slice A1 n1 c1] := (hbb.block _ oaa).trans ((hba.block _ (by first | (simp; done) | (simp; omega) | omega)).trans (((Bk.alloc_ w 24 #[.bool s1, .slice A1 n1 c1]).alloc _).alloc _))
      have b2 : Bk wb (w.heap.size + 1) 24 #[.bool s2, .slice A2 n2 c2] := (hbb.block _ oba).trans ((hba.block _ (by first | (simp; done) | (simp; omega) | omega)).trans ((alloc2_bk w _ _ _).alloc _))
      have hst := store_two (x := .bool (s1 && decide (0 < ma))) (y := .slice A1 ma c1) (z := .bool (s2 && decide (0 < mb))) (u := .slice A2 mb c2) b1 b2 (by omega)
        (Fr.of_below (S := fun k => k = w.heap.size ∨ k = w.heap.size + 1) (w := (((w.alloc (.cells #[.bool s1, .slice A1 n1 c1] 24)).alloc (.cells #[.bool s2, .slice A2 n2 c2] 24)).alloc (.cells #[.bool false, .slice none 0 0] 24))) ((((Below.refl _ _).drew).trans hba).trans (hbb.mono (by first | (simp; done) | (simp; omega) | omega))))
      have HST := Lib.hid hst
      clear b1 b2 hst hca hcb hfa hfb hza hzb
      go_wp2_with fail
      go_meet
      exact ⟨ma, mb, hma, hva, hna, hmb, hvb, hnb, HST.out⟩
  case rest =>
    obtain ⟨m1, m2, hm1, hv1, hn1, hm2, hv2, hn2, k1, k2, hf⟩ := hcut
    obtain ⟨z1, p1⟩ := sg_read (s := s1) hv1 hn1 (by rw [HN1.out]; exact hm1)
    obtain ⟨z2, p2⟩ := sg_read (s := s2) hv2 hn2 (by rw [HN2.out]; exact hm2)
    generalize (s1 && decide (0 < m1)) = t1 at z1 p1 k1
    generalize (s2 && decide (0 < m2)) = t2 at z2 p2 k2
    have hbw : Below w.heap.size w wc := Below.trans (alloc3_below _ _ _ _) (hf.below (by first | (simp; done) | (simp; omega) | omega) (fun k hk h => by rcases h with h | h <;> omega))
    have L1 := (H1.out wc hbw).take hm1
    have L2 := (H2.out wc hbw).take hm2
    have e10 : wc.cell? ⟨w.heap.size, 0, none⟩ = some (.bool t1) := by simpa using k1.cell 0
    have e11 : wc.cell? ⟨w.heap.size, 1, none⟩ = some (.slice A1 m1 c1) := by simpa using k1.cell 1
    have e20 : wc.cell? ⟨w.heap.size + 1, 0, none⟩ = some (.bool t2) := by simpa using k2.cell 0
    have e21 : wc.cell? ⟨w.heap.size + 1, 1, none⟩ = some (.slice A2 m2 c2) := by simpa using k2.cell 1
    have Z1 := Lib.hid z1
    have Z2 := Lib.hid z2
    have HB := Lib.hid hbw
    have HF := Lib.hid hf
    have KK1 := Lib.hid k1
    have KK2 := Lib.hid k2
    clear z1 z2 hbw hf k1 k2 hv1 hv2
    have k3 : Bk wc (w.heap.size + 2) 24 #[.bool false, .slice none 0 0] := (HF.out.block (w.heap.size + 2) (by simp) (fun h => by rcases h with h | h <;> omega)).trans (by have h := Bk.alloc_ ((w.alloc (.cells #[.bool s1, .slice A1 n1 c1] 24)).alloc (.cells #[.bool s2, .slice A2 n2 c2] 24)) 24 #[.bool false, .slice none 0 0]; rw [World.size_alloc, World.size_alloc] at h; exact h)
    have o3 := k3.lt
    have o1 : w.heap.size < wc.heap.size := by omega
    have o2 : w.heap.size + 1 < wc.heap.size := by omega
    have e30 : wc.cell? ⟨w.heap.size + 2, 0, none⟩ = some (.bool false) := by simpa using k3.cell 0
    have e31 : wc.cell? ⟨w.heap.size + 2, 1, none⟩ = some (.slice none 0 0) := by simpa using k3.cell 1
    have f30 := k3.frozen 0
    have f31 := k3.frozen 1
    have HK3 := Lib.hid k3
    clear k3 p1 p2
    have hadd := multiplyLimbs_any A1 A2 m1 c1 m2 c2 _ _ wc.drew L1.drew L2.drew (by omega) (by omega)
    have HADD := Lib.hid hadd
    clear hadd L1 L2
    cases t1 <;> cases t2
    · go_wp2_with fail
      go_region_held3 (fun w' => w'.cell? ⟨w.heap.size, 0, none⟩ = some (.bool false) ∧ w'.cell? ⟨w.heap.size, 1, none⟩ = some (.slice A1 m1 c1) ∧ w'.cell? ⟨w.heap.size + 1, 0, none⟩ = some (.bool false) ∧ w'.cell? ⟨w.heap.size + 1, 1, none⟩ = some (.slice A2 m2 c2)) (go_keep)
        (first
          | (go_at_call 65; refine HADD.out.mono ?_; rintro e wa ⟨hba, Aa, qa, ca, la, rfl, hla, hna, hva⟩; obtain ⟨hca, hfa⟩ := bcell hba; have hza : wc.heap.size ≤ wa.heap.size := hba.size; have oa1 : w.heap.size < wa.heap.size := (by omega); have oa2 : w.heap.size + 1 < wa.heap.size := (by omega); have oa3 : w.heap.size + 2 < wa.heap.size := (by omega); have q1 := (hca _ 0 o1).trans e10; have q2 := (hca _ 1 o1).trans e11; have q3 := (hca _ 0 o2).trans e20; have q8 := (hca _ 1 o2).trans e21; have q4 := (hca _ 0 o3).trans e30; have q5 := (hca _ 1 o3).trans e31; have q6 := (hfa _ 0 o3).trans f30; have q7 := (hfa _ 1 o3).trans f31; have HLA := Lib.hid hla; have HVA := Lib.hid hva; clear hla hva)
          | (go_at_call 56; refine (signed_any _ _ _ _ _).mono ?_; rintro e wb ⟨rfl, hbb⟩; obtain ⟨hcb, hfb⟩ := bcell hbb; have hzb := hbb.size; have p1' := (hcb _ 0 oa1).trans q1; have p2' := (hcb _ 1 oa1).trans q2; have p3' := (hcb _ 0 oa2).trans q3; have p8' := (hcb _ 1 oa2).trans q8; have p4' := (hcb _ 0 oa3).trans q4; have p5' := (hcb _ 1 oa3).trans q5; have p6' := (hfb _ 0 oa3).trans q6; have p7' := (hfb _ 1 oa3).trans q7; have hcx : ∀ (W : World) (o j : Nat) (u : Value), (W.setCell ⟨w.heap.size + 1 + 1, o, none⟩ u).cell? ⟨w.heap.size, j, none⟩ = W.cell? ⟨w.heap.size, j, none⟩ := (fun W o j u => World.cell?_setCell_other W _ _ u (fun e => by have := congrArg Addr.block e; simp at this; omega)); have hcy : ∀ (W : World) (o j : Nat) (u : Value), (W.setCell ⟨w.heap.size + 1 + 1, o, none⟩ u).cell? ⟨w.heap.size + 1, j, none⟩ = W.cell? ⟨w.heap.size + 1, j, none⟩ := (fun W o j u => World.cell?_setCell_other W _ _ u (fun e => by have := congrArg Addr.block e; simp at this))))
      go_wp2
      have hbel : Below w.heap.size w wb := (Below.trans (HB.out.drew) (hba.mono (by first | (simp; done) | (simp; omega) | omega))).trans (hbb.mono (by omega))
      have hlim := (HLA.out.below hbb (Nat.le_refl _) (Nat.le_refl _)).mono hbb.size
      have hk3b : Bk wb (w.heap.size + 1 + 1) 24 #[.bool false, .slice none 0 0] := (hbb.block _ oa3).trans ((hba.block _ o3).trans HK3.out)
      have hlim2 := hlim.past hk3b (.bool (false && decide (0 < qa))) (.slice Aa qa ca)
      refine bodyPost_ret (v := .agg #[.bool (false && decide (0 < qa)), .slice Aa qa ca]) (by simp [results, Tryz.results18, go_sem, p4', p5']) rfl ⟨(hbel.setCell (by simp; omega) _).setCell (by simp; omega) _, _, rfl, mkInt (hlim2.mono (by simp)) hna (by rw [HVA.out, ← Z1.out, ← Z2.out]; exact prod_sg _ _ _ _)⟩
    · go_wp2_with fail
      go_region_held3 (fun w' => w'.cell? ⟨w.heap.size, 0, none⟩ = some (.bool false) ∧ w'.cell? ⟨w.heap.size, 1, none⟩ = some (.slice A1 m1 c1) ∧ w'.cell? ⟨w.heap.size + 1, 0, none⟩ = some (.bool true) ∧ w'.cell? ⟨w.heap.size + 1, 1, none⟩ = some (.slice A2 m2 c2)) (go_keep)
        (first
          | (go_at_call 65; refine HADD.out.mono ?_; rintro e wa ⟨hba, Aa, qa, ca, la, rfl, hla, hna, hva⟩; obtain ⟨hca, hfa⟩ := bcell hba; have hza : wc.heap.size ≤ wa.heap.size := hba.size; have oa1 : w.heap.size < wa.heap.size := (by omega); have oa2 : w.heap.size + 1 < wa.heap.size := (by omega); have oa3 : w.heap.size + 2 < wa.heap.size := (by omega); have q1 := (hca _ 0 o1).trans e10; have q2 := (hca _ 1 o1).trans e11; have q3 := (hca _ 0 o2).trans e20; have q8 := (hca _ 1 o2).trans e21; have q4 := (hca _ 0 o3).trans e30; have q5 := (hca _ 1 o3).trans e31; have q6 := (hfa _ 0 o3).trans f30; have q7 := (hfa _ 1 o3).trans f31; have HLA := Lib.hid hla; have HVA := Lib.hid hva; clear hla hva)
          | (go_at_call 56; refine (signed_any _ _ _ _ _).mono ?_; rintro e wb ⟨rfl, hbb⟩; obtain ⟨hcb, hfb⟩ := bcell hbb; have hzb := hbb.size; have p1' := (hcb _ 0 oa1).trans q1; have p2' := (hcb _ 1 oa1).trans q2; have p3' := (hcb _ 0 oa2).trans q3; have p8' := (hcb _ 1 oa2).trans q8; have p4' := (hcb _ 0 oa3).trans q4; have p5' := (hcb _ 1 oa3).trans q5; have p6' := (hfb _ 0 oa3).trans q6; have p7' := (hfb _ 1 oa3).trans q7; have hcx : ∀ (W : World) (o j : Nat) (u : Value), (W.setCell ⟨w.heap.size + 1 + 1, o, none⟩ u).cell? ⟨w.heap.size, j, none⟩ = W.cell? ⟨w.heap.size, j, none⟩ := (fun W o j u => World.cell?_setCell_other W _ _ u (fun e => by have := congrArg Addr.block e; simp at this; omega)); have hcy : ∀ (W : World) (o j : Nat) (u : Value), (W.setCell ⟨w.heap.size + 1 + 1, o, none⟩ u).cell? ⟨w.heap.size + 1, j, none⟩ = W.cell? ⟨w.heap.size + 1, j, none⟩ := (fun W o j u => World.cell?_setCell_other W _ _ u (fun e => by have := congrArg Addr.block e; simp at this))))
      go_wp2
      have hbel : Below w.heap.size w wb := (Below.trans (HB.out.drew) (hba.mono (by first | (simp; done) | (simp; omega) | omega))).trans (hbb.mono (by omega))
      have hlim := (HLA.out.below hbb (Nat.le_refl _) (Nat.le_refl _)).mono hbb.size
      have hk3b : Bk wb (w.heap.size + 1 + 1) 24 #[.bool false, .slice none 0 0] := (hbb.block _ oa3).trans ((hba.block _ o3).trans HK3.out)
      have hlim2 := hlim.past hk3b (.bool (true && decide (0 < qa))) (.slice Aa qa ca)
      refine bodyPost_ret (v := .agg #[.bool (true && decide (0 < qa)), .slice Aa qa ca]) (by simp [results, Tryz.results18, go_sem, p4', p5']) rfl ⟨(hbel.setCell (by simp; omega) _).setCell (by simp; omega) _, _, rfl, mkInt (hlim2.mono (by simp)) hna (by rw [HVA.out, ← Z1.out, ← Z2.out]; exact prod_sg _ _ _ _)⟩
    · go_wp2_with fail
      go_region_held3 (fun w' => w'.cell? ⟨w.heap.size, 0, none⟩ = some (.bool true) ∧ w'.cell? ⟨w.heap.size, 1, none⟩ = some (.slice A1 m1 c1) ∧ w'.cell? ⟨w.heap.size + 1, 0, none⟩ = some (.bool false) ∧ w'.cell? ⟨w.heap.size + 1, 1, none⟩ = some (.slice A2 m2 c2)) (go_keep)
        (first
          | (go_at_call 65; refine HADD.out.mono ?_; rintro e wa ⟨hba, Aa, qa, ca, la, rfl, hla, hna, hva⟩; obtain ⟨hca, hfa⟩ := bcell hba; have hza : wc.heap.size ≤ wa.heap.size := hba.size; have oa1 : w.heap.size < wa.heap.size := (by omega); have oa2 : w.heap.size + 1 < wa.heap.size := (by omega); have oa3 : w.heap.size + 2 < wa.heap.size := (by omega); have q1 := (hca _ 0 o1).trans e10; have q2 := (hca _ 1 o1).trans e11; have q3 := (hca _ 0 o2).trans e20; have q8 := (hca _ 1 o2).trans e21; have q4 := (hca _ 0 o3).trans e30; have q5 := (hca _ 1 o3).trans e31; have q6 := (hfa _ 0 o3).trans f30; have q7 := (hfa _ 1 o3).trans f31; have HLA := Lib.hid hla; have HVA := Lib.hid hva; clear hla hva)
          | (go_at_call 56; refine (signed_any _ _ _ _ _).mono ?_; rintro e wb ⟨rfl, hbb⟩; obtain ⟨hcb, hfb⟩ := bcell hbb; have hzb := hbb.size; have p1' := (hcb _ 0 oa1).trans q1; have p2' := (hcb _ 1 oa1).trans q2; have p3' := (hcb _ 0 oa2).trans q3; have p8' := (hcb _ 1 oa2).trans q8; have p4' := (hcb _ 0 oa3).trans q4; have p5' := (hcb _ 1 oa3).trans q5; have p6' := (hfb _ 0 oa3).trans q6; have p7' := (hfb _ 1 oa3).trans q7; have hcx : ∀ (W : World) (o j : Nat) (u : Value), (W.setCell ⟨w.heap.size + 1 + 1, o, none⟩ u).cell? ⟨w.heap.size, j, none⟩ = W.cell? ⟨w.heap.size, j, none⟩ := (fun W o j u => World.cell?_setCell_other W _ _ u (fun e => by have := congrArg Addr.block e; simp at this; omega)); have hcy : ∀ (W : World) (o j : Nat) (u : Value), (W.setCell ⟨w.heap.size + 1 + 1, o, none⟩ u).cell? ⟨w.heap.size + 1, j, none⟩ = W.cell? ⟨w.heap.size + 1, j, none⟩ := (fun W o j u => World.cell?_setCell_other W _ _ u (fun e => by have := congrArg Addr.block e; simp at this))))
      go_wp2
      have hbel : Below w.heap.size w wb := (Below.trans (HB.out.drew) (hba.mono (by first | (simp; done) | (simp; omega) | omega))).trans (hbb.mono (by omega))
      have hlim := (HLA.out.below hbb (Nat.le_refl _) (Nat.le_refl _)).mono hbb.size
      have hk3b : Bk wb (w.heap.size + 1 + 1) 24 #[.bool false, .slice none 0 0] := (hbb.block _ oa3).trans ((hba.block _ o3).trans HK3.out)
      have hlim2 := hlim.past hk3b (.bool (true && decide (0 < qa))) (.slice Aa qa ca)
      refine bodyPost_ret (v := .agg #[.bool (true && decide (0 < qa)), .slice Aa qa ca]) (by simp [results, Tryz.results18, go_sem, p4', p5']) rfl ⟨(hbel.setCell (by simp; omega) _).setCell (by simp; omega) _, _, rfl, mkInt (hlim2.mono (by simp)) hna (by rw [HVA.out, ← Z1.out, ← Z2.out]; exact prod_sg _ _ _ _)⟩
    · go_wp2_with fail
      go_region_held3 (fun w' => w'.cell? ⟨w.heap.size, 0, none⟩ = some (.bool true) ∧ w'.cell? ⟨w.heap.size, 1, none⟩ = some (.slice A1 m1 c1) ∧ w'.cell? ⟨w.heap.size + 1, 0, none⟩ = some (.bool true) ∧ w'.cell? ⟨w.heap.size + 1, 1, none⟩ = some (.slice A2 m2 c2)) (go_keep)
        (first
          | (go_at_call 65; refine HADD.out.mono ?_; rintro e wa ⟨hba, Aa, qa, ca, la, rfl, hla, hna, hva⟩; obtain ⟨hca, hfa⟩ := bcell hba; have hza : wc.heap.size ≤ wa.heap.size := hba.size; have oa1 : w.heap.size < wa.heap.size := (by omega); have oa2 : w.heap.size + 1 < wa.heap.size := (by omega); have oa3 : w.heap.size + 2 < wa.heap.size := (by omega); have q1 := (hca _ 0 o1).trans e10; have q2 := (hca _ 1 o1).trans e11; have q3 := (hca _ 0 o2).trans e20; have q8 := (hca _ 1 o2).trans e21; have q4 := (hca _ 0 o3).trans e30; have q5 := (hca _ 1 o3).trans e31; have q6 := (hfa _ 0 o3).trans f30; have q7 := (hfa _ 1 o3).trans f31; have HLA := Lib.hid hla; have HVA := Lib.hid hva; clear hla hva)
          | (go_at_call 56; refine (signed_any _ _ _ _ _).mono ?_; rintro e wb ⟨rfl, hbb⟩; obtain ⟨hcb, hfb⟩ := bcell hbb; have hzb := hbb.size; have p1' := (hcb _ 0 oa1).trans q1; have p2' := (hcb _ 1 oa1).trans q2; have p3' := (hcb _ 0 oa2).trans q3; have p8' := (hcb _ 1 oa2).trans q8; have p4' := (hcb _ 0 oa3).trans q4; have p5' := (hcb _ 1 oa3).trans q5; have p6' := (hfb _ 0 oa3).trans q6; have p7' := (hfb _ 1 oa3).trans q7; have hcx : ∀ (W : World) (o j : Nat) (u : Value), (W.setCell ⟨w.heap.size + 1 + 1, o, none⟩ u).cell? ⟨w.heap.size, j, none⟩ = W.cell? ⟨w.heap.size, j, none⟩ := (fun W o j u => World.cell?_setCell_other W _ _ u (fun e => by have := congrArg Addr.block e; simp at this; omega)); have hcy : ∀ (W : World) (o j : Nat) (u : Value), (W.setCell ⟨w.heap.size + 1 + 1, o, none⟩ u).cell? ⟨w.heap.size + 1, j, none⟩ = W.cell? ⟨w.heap.size + 1, j, none⟩ := (fun W o j u => World.cell?_setCell_other W _ _ u (fun e => by have := congrArg Addr.block e; simp at this))))
      go_wp2
      have hbel : Below w.heap.size w wb := (Below.trans (HB.out.drew) (hba.mono (by first | (simp; done) | (simp; omega) | omega))).trans (hbb.mono (by omega))
      have hlim := (HLA.out.below hbb (Nat.le_refl _) (Nat.le_refl _)).mono hbb.size
      have hk3b : Bk wb (w.heap.size + 1 + 1) 24 #[.bool false, .slice none 0 0] := (hbb.block _ oa3).trans ((hba.block _ o3).trans HK3.out)
      have hlim2 := hlim.past hk3b (.bool (false && decide (0 < qa))) (.slice Aa qa ca)
      refine bodyPost_ret (v := .agg #[.bool (false && decide (0 < qa)), .slice Aa qa ca]) (by simp [results, Tryz.results18, go_sem, p4', p5']) rfl ⟨(hbel.setCell (by simp; omega) _).setCell (by simp; omega) _, _, rfl, mkInt (hlim2.mono (by simp)) hna (by rw [HVA.out, ← Z1.out, ← Z2.out]; exact prod_sg _ _ _ _)⟩

end Go.Proofs.YtfnibkodccfocaaGreat
