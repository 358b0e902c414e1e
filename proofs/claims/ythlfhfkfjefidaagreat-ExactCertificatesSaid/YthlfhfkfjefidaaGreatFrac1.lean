/- Several texts in one. -/
import Derived.Test.YthlfhfkfjefidaaGreatRatG
import Derived.Test.YthlfhfkfjefidaaGreatAriG
import Derived.Test.YthlfhfkfjefidaaGreatIntG
/- The walk of terms. -/
namespace Go.Proofs.YthlfhfkfjefidaaGreat
open Go.RowKit
def NumAt (w : World) (B : Nat) (v : Value) (z : Int) : Prop := ∃ s A n c l, v = .agg #[.bool s, .slice A n c] ∧ Lim w B A n c l ∧ Norm l ∧ z = sg s (val l)
theorem IntAt.num {w : World} {B : Nat} {v : Value} {z : Int} (h : IntAt w B v z) : NumAt w B v z := by
 obtain ⟨s, A, n, c, l, e, hl, hn, hz, _⟩ := h
 exact ⟨s, A, n, c, l, e, hl, hn, hz⟩
theorem NumAt.below {w w' : World} {B B' : Nat} {v : Value} {z : Int} (h : NumAt w B v z) {D : Nat} (hb : Below D w w') (hD : B ≤ D) (hB : B ≤ B') : NumAt w' B' v z := by
 obtain ⟨s, A, n, c, l, e, hl, hn, hz⟩ := h
 exact ⟨s, A, n, c, l, e, hl.below hb hD hB, hn, hz⟩
theorem NumAt.mono {w : World} {B B' : Nat} {v : Value} {z : Int} (h : NumAt w B v z) (hB : B ≤ B') : NumAt w B' v z := h.below (Below.refl B w) (Nat.le_refl _) hB
theorem NumAt.past2 {w : World} {B g1 g2 t t' : Nat} {a : Value} {z : Int} {x x' : Bool} {y1 y1' : Option Addr} {y2 y3 y2' y3' : Nat} (h : NumAt w B a z) (k1 : Bk w g1 t #[.bool x, .slice y1 y2 y3]) (k2 : Bk w g2 t' #[.bool x', .slice y1' y2' y3']) (hne : g1 ≠ g2) (u v u' v' : Value) :
 NumAt ((((w.setCell ⟨g1, 0, none⟩ u).setCell ⟨g1, 1, none⟩ v).setCell ⟨g2, 0, none⟩ u').setCell ⟨g2, 1, none⟩ v') B a z := by
 obtain ⟨s, A, n, c, l, e, hl, hn, hz⟩ := h
 exact ⟨s, A, n, c, l, e, (hl.past k1 u v).past ((k2.other (p := ⟨g1, 0, none⟩) (Ne.symm hne) u).other (p := ⟨g1, 1, none⟩) (Ne.symm hne) v) u' v', hn, hz⟩
theorem step_ne (n : Nat) : n + 1 ≠ n + 1 + 1 := by omega
def Terms (a b p q : Int) : Prop := (b = 0 ∧ p = a ∧ q = 1) ∨ (b < 0 ∧ p = -a ∧ q = -b) ∨ (0 < b ∧ p = a ∧ q = b)
def TermsCut (w : World) (s1 s2 : Bool) (A1 A2 : Option Addr) (n1 c1 n2 c2 : Nat) (l1 l2 : List Nat) (wx : World) : Prop :=
 ∃ m1 m2, m1 ≤ n1 ∧ val (l1.take m1) = val l1 ∧ Norm (l1.take m1) ∧ m2 ≤ n2 ∧ val (l2.take m2) = val l2 ∧ Norm (l2.take m2) ∧ Below w.heap.size w wx ∧
  Bk wx (w.heap.size + 1) 24 #[.bool (s1 && decide (0 < m1)), .slice A1 m1 c1] ∧ Bk wx (w.heap.size + 1 + 1) 24 #[.bool (s2 && decide (0 < m2)), .slice A2 m2 c2]
set_option maxRecDepth 100000 in
set_option maxHeartbeats 4000000 in
theorem terms_any (s1 s2 : Bool) (A1 A2 : Option Addr) (n1 c1 n2 c2 : Nat) (l1 l2 : List Nat) (w : World) (h1 : Lim w w.heap.size A1 n1 c1 l1) (h2 : Lim w w.heap.size A2 n2 c2 l2) :
 Calls Tryz.prog 73 #[.agg #[.bool s1, .slice A1 n1 c1, .bool s2, .slice A2 n2 c2]] w fun e w' => Below w.heap.size w w' ∧ ∃ u v p q, e = .returned (.tuple #[u, v]) ∧
  NumAt w' w'.heap.size u p ∧ NumAt w' w'.heap.size v q ∧ Terms (sg s1 (val l1)) (sg s2 (val l2)) p q := by
 have H1 : Hid (∀ w', Below w.heap.size w w' → Lim w' w'.heap.size A1 n1 c1 l1) := fun w' hb => h1.below hb (Nat.le_refl _) hb.size
 have H2 : Hid (∀ w', Below w.heap.size w w' → Lim w' w'.heap.size A2 n2 c2 l2) := fun w' hb => h2.below hb (Nat.le_refl _) hb.size
 have HN1 := Lib.hid h1.len
 have HN2 := Lib.hid h2.len
 clear h1 h2
 have x1 : Bk (((w.alloc (.cells #[.bool s1, .slice A1 n1 c1, .bool s2, .slice A2 n2 c2] 41)).alloc (.cells #[.bool false, .slice none 0 0] 24)).alloc (.cells #[.bool false, .slice none 0 0] 24)) w.heap.size 41 #[.bool s1, .slice A1 n1 c1, .bool s2, .slice A2 n2 c2] := ((Bk.alloc_ w 41 #[.bool s1, .slice A1 n1 c1, .bool s2, .slice A2 n2 c2]).alloc _).alloc _
 have x2 : Bk (((w.alloc (.cells #[.bool s1, .slice A1 n1 c1, .bool s2, .slice A2 n2 c2] 41)).alloc (.cells #[.bool false, .slice none 0 0] 24)).alloc (.cells #[.bool false, .slice none 0 0] 24)) (w.heap.size + 1) 24 #[.bool false, .slice none 0 0] := (alloc2_bk w _ _ _).alloc _
 have x3 : Bk (((w.alloc (.cells #[.bool s1, .slice A1 n1 c1, .bool s2, .slice A2 n2 c2] 41)).alloc (.cells #[.bool false, .slice none 0 0] 24)).alloc (.cells #[.bool false, .slice none 0 0] 24)) (w.heap.size + 1 + 1) 24 #[.bool false, .slice none 0 0] := by have h := alloc2_bk (w.alloc (.cells #[.bool s1, .slice A1 n1 c1, .bool s2, .slice A2 n2 c2] 41)) (.cells #[.bool false, .slice none 0 0] 24) 24 #[.bool false, .slice none 0 0]; rw [World.size_alloc] at h; exact h
 have KEEP : Hid (∀ w', Below (((w.alloc (.cells #[.bool s1, .slice A1 n1 c1, .bool s2, .slice A2 n2 c2] 41)).alloc (.cells #[.bool false, .slice none 0 0] 24)).alloc (.cells #[.bool false, .slice none 0 0] 24)).heap.size (((w.alloc (.cells #[.bool s1, .slice A1 n1 c1, .bool s2, .slice A2 n2 c2] 41)).alloc (.cells #[.bool false, .slice none 0 0] 24)).alloc (.cells #[.bool false, .slice none 0 0] 24)) w' → Bk w' (w.heap.size + 1) 24 #[.bool false, .slice none 0 0] ∧ Bk w' (w.heap.size + 1 + 1) 24 #[.bool false, .slice none 0 0] ∧
  w'.cell? ⟨w.heap.size, 0, none⟩ = some (.bool s1) ∧ w'.cell? ⟨w.heap.size, 1, none⟩ = some (.slice A1 n1 c1) ∧ w'.cell? ⟨w.heap.size, 2, none⟩ = some (.bool s2) ∧ w'.cell? ⟨w.heap.size, 3, none⟩ = some (.slice A2 n2 c2) ∧
  w'.cell? ⟨w.heap.size + 1, 0, none⟩ = some (.bool false) ∧ w'.cell? ⟨w.heap.size + 1, 1, none⟩ = some (.slice none 0 0) ∧ w'.cell? ⟨w.heap.size + 1 + 1, 0, none⟩ = some (.bool false) ∧ w'.cell? ⟨w.heap.size + 1 + 1, 1, none⟩ = some (.slice none 0 0) ∧
  w'.frozen? ⟨w.heap.size + 1, 0, none⟩ = false ∧ w'.frozen? ⟨w.heap.size + 1, 1, none⟩ = false ∧ w'.frozen? ⟨w.heap.size + 1 + 1, 0, none⟩ = false ∧ w'.frozen? ⟨w.heap.size + 1 + 1, 1, none⟩ = false) := by
  intro w' hb
  have r1 := x1.below hb x1.lt
  have r2 := x2.below hb x2.lt
  have r3 := x3.below hb x3.lt
  exact ⟨r2, r3, by simpa using r1.cell 0, by simpa using r1.cell 1, by simpa using r1.cell 2, by simpa using r1.cell 3, by simpa using r2.cell 0, by simpa using r2.cell 1, by simpa using r3.cell 0, by simpa using r3.cell 1, r2.frozen 0, r2.frozen 1, r3.frozen 0, r3.frozen 1⟩
 have hbel : Below w.heap.size w (((w.alloc (.cells #[.bool s1, .slice A1 n1 c1, .bool s2, .slice A2 n2 c2] 41)).alloc (.cells #[.bool false, .slice none 0 0] 24)).alloc (.cells #[.bool false, .slice none 0 0] 24)) := alloc3_below _ _ _ _
 have hsz : w.heap.size ≤ (((w.alloc (.cells #[.bool s1, .slice A1 n1 c1, .bool s2, .slice A2 n2 c2] 41)).alloc (.cells #[.bool false, .slice none 0 0] 24)).alloc (.cells #[.bool false, .slice none 0 0] 24)).heap.size := hbel.size
 have HBEL := Lib.hid hbel
 have HSZ := Lib.hid hsz
 clear x1 x2 x3 hbel hsz
 go_enter Tryz.func73, Tryz.ntmps73
 go_upto_region 1 with fail
 have hcx : ∀ (W : World) (o j : Nat) (u : Value), (W.setCell ⟨w.heap.size + 1, o, none⟩ u).cell? ⟨w.heap.size, j, none⟩ = W.cell? ⟨w.heap.size, j, none⟩ := (fun W o j u => World.cell?_setCell_other W _ _ u (fun e => by have := congrArg Addr.block e; simp at this))
 have hcy : ∀ (W : World) (o j : Nat) (u : Value), (W.setCell ⟨w.heap.size + 1 + 1, o, none⟩ u).cell? ⟨w.heap.size, j, none⟩ = W.cell? ⟨w.heap.size, j, none⟩ := (fun W o j u => World.cell?_setCell_other W _ _ u (fun e => by have := congrArg Addr.block e; simp at this; omega))
 obtain ⟨-, -, e10, e11, e12, e13, -⟩ := KEEP.out _ (Below.refl _ _)
 go_cut [] (fun wx => TermsCut w s1 s2 A1 A2 n1 c1 n2 c2 l1 l2 wx)
 case first =>
  go_region_held3 (fun w' => w'.cell? ⟨w.heap.size, 0, none⟩ = some (.bool s1) ∧ w'.cell? ⟨w.heap.size, 1, none⟩ = some (.slice A1 n1 c1) ∧ w'.cell? ⟨w.heap.size, 2, none⟩ = some (.bool s2) ∧ w'.cell? ⟨w.heap.size, 3, none⟩ = some (.slice A2 n2 c2)) (go_keep)
   (first
     | (go_at_call_of 53 (Value.agg #[.bool s1, .slice A1 n1 c1]); refine (read_any s1 A1 n1 c1 l1 _ (H1.out _ HBEL.out.drew)).mono ?_; rintro e wa ⟨hba, sa, ma, rfl, hma, hva, hna, rfl⟩
        have hya : Below (((w.alloc (.cells #[.bool s1, .slice A1 n1 c1, .bool s2, .slice A2 n2 c2] 41)).alloc (.cells #[.bool false, .slice none 0 0] 24)).alloc (.cells #[.bool false, .slice none 0 0] 24)).heap.size (((w.alloc (.cells #[.bool s1, .slice A1 n1 c1, .bool s2, .slice A2 n2 c2] 41)).alloc (.cells #[.bool false, .slice none 0 0] 24)).alloc (.cells #[.bool false, .slice none 0 0] 24)) wa := ((Below.refl _ _).drew).trans hba
        obtain ⟨-, -, qa1, qa2, qa3, qa4, -⟩ := KEEP.out wa hya
        have HYA := Lib.hid hya; clear hya hba)
     | (go_at_call_of 53 (Value.agg #[.bool s2, .slice A2 n2 c2]); refine (read_any s2 A2 n2 c2 l2 _ (H2.out _ (HBEL.out.trans (HYA.out.mono HSZ.out)))).mono ?_; rintro e wb ⟨hbb, sb, mb, rfl, hmb, hvb, hnb, rfl⟩
        have hyb : Below (((w.alloc (.cells #[.bool s1, .slice A1 n1 c1, .bool s2, .slice A2 n2 c2] 41)).alloc (.cells #[.bool false, .slice none 0 0] 24)).alloc (.cells #[.bool false, .slice none 0 0] 24)).heap.size (((w.alloc (.cells #[.bool s1, .slice A1 n1 c1, .bool s2, .slice A2 n2 c2] 41)).alloc (.cells #[.bool false, .slice none 0 0] 24)).alloc (.cells #[.bool false, .slice none 0 0] 24)) wb := HYA.out.trans (hbb.mono HYA.out.size)
        obtain ⟨r2, r3, qb1, qb2, qb3, qb4, qb5, qb6, qb7, qb8, fb1, fb2, fb3, fb4⟩ := KEEP.out wb hyb
        have HYB := Lib.hid hyb; have R2 := Lib.hid r2; have R3 := Lib.hid r3; clear hyb hbb r2 r3))
  go_wp2_with fail
  have hne : w.heap.size + 1 ≠ w.heap.size + 1 + 1 := by omega
  have hst := store_two (w := wb) (x := .bool (s1 && decide (0 < ma))) (y := .slice A1 ma c1) (z := .bool (s2 && decide (0 < mb))) (u := .slice A2 mb c2) R2.out R3.out hne (Fr.of_below (Below.refl _ _))
  have hbl : Below w.heap.size w wb := HBEL.out.trans (HYB.out.mono HSZ.out)
  have HBL := Lib.hid hbl
  have HST := Lib.hid hst
  clear hst hbl
  go_meet
  exact ⟨ma, mb, hma, hva, hna, hmb, hvb, hnb, (((HBL.out.setCell (by first | (simp; done) | (simp; omega) | omega) _).setCell (by first | (simp; done) | (simp; omega) | omega) _).setCell (by first | (simp; done) | (simp; omega) | omega) _).setCell (by first | (simp; done) | (simp; omega) | omega) _, HST.out.1, HST.out.2.1⟩
 case rest =>
  obtain ⟨m1, m2, hm1, hv1, hn1, hm2, hv2, hn2, hbw, k1, k2⟩ := hcut
  obtain ⟨z1, p1⟩ := sg_read (s := s1) hv1 hn1 (by rw [HN1.out]; exact hm1)
  obtain ⟨z2, p2⟩ := sg_read (s := s2) hv2 hn2 (by rw [HN2.out]; exact hm2)
  generalize (s1 && decide (0 < m1)) = t1 at z1 p1 k1
  generalize (s2 && decide (0 < m2)) = t2 at z2 p2 k2
  have L1 := (H1.out wc hbw).take hm1
  have L2 := (H2.out wc hbw).take hm2
  have KEEP2 : Hid (∀ w', Below wc.heap.size wc w' → Bk w' (w.heap.size + 1) 24 #[.bool t1, .slice A1 m1 c1] ∧ Bk w' (w.heap.size + 1 + 1) 24 #[.bool t2, .slice A2 m2 c2] ∧
   w'.cell? ⟨w.heap.size + 1, 0, none⟩ = some (.bool t1) ∧ w'.cell? ⟨w.heap.size + 1, 1, none⟩ = some (.slice A1 m1 c1) ∧ w'.cell? ⟨w.heap.size + 1 + 1, 0, none⟩ = some (.bool t2) ∧ w'.cell? ⟨w.heap.size + 1 + 1, 1, none⟩ = some (.slice A2 m2 c2) ∧
   w'.frozen? ⟨w.heap.size + 1, 0, none⟩ = false ∧ w'.frozen? ⟨w.heap.size + 1, 1, none⟩ = false ∧ w'.frozen? ⟨w.heap.size + 1 + 1, 0, none⟩ = false ∧ w'.frozen? ⟨w.heap.size + 1 + 1, 1, none⟩ = false) := by
   intro w' hb
   have r2 := k1.below hb k1.lt
   have r3 := k2.below hb k2.lt
   exact ⟨r2, r3, by simpa using r2.cell 0, by simpa using r2.cell 1, by simpa using r3.cell 0, by simpa using r3.cell 1, r2.frozen 0, r2.frozen 1, r3.frozen 0, r3.frozen 1⟩
  obtain ⟨-, -, e10, e11, e20, e21, -⟩ := KEEP2.out wc (Below.refl _ _)
  have Z1 := Lib.hid z1
  have Z2 := Lib.hid z2
  have HBW := Lib.hid hbw
  have HO2 := Lib.hid k2.lt
  clear z1 z2 hbw hv1 hv2 k1 k2 p1 p2 hcx hcy
  go_wp2_with fail
  refine (isZero_any t2 A2 m2 c2 (l2.take m2) wc L2).mono ?_
  rintro e wd ⟨rfl, hbd⟩
  have HLL1 := Lib.hid (L1.below hbd (Nat.le_refl _) hbd.size)
  have HLL2 := Lib.hid (L2.below hbd (Nat.le_refl _) hbd.size)
  have HBD := Lib.hid hbd
  have HBW2 := Lib.hid (HBW.out.trans (hbd.mono HBW.out.size))
  obtain ⟨q1, q2, q10, q11, q20, q21, g10, g11, g20, g21⟩ := KEEP2.out wd hbd
  have Q1 := Lib.hid q1
  have Q2 := Lib.hid q2
  clear hbd L1 L2 e10 e11 e20 e21 q1 q2
  by_cases hz : val (l2.take m2) = 0
  · have hd : decide (val (l2.take m2) = 0) = true := by simpa using hz
    rw [hd]
    have HZ := Lib.hid hz
    clear hd hz
    go_upto_region 3 with fail
    go_region_with (go_at_call 12; refine (of_any 1 _ (by omega) (by omega)).mono ?_; rintro e wo ⟨hbo, vo, rfl, ho⟩; have hyo : Below wd.heap.size wd wo := Below.trans (by repeat (first | exact Below.refl _ _ | assumption | refine Below.drew ?_ | refine Below.drewN ?_ _ | refine Below.alloc ?_ (by simp <;> omega) _ | refine Below.setCell ?_ (by simp <;> omega) _)) hbo; obtain ⟨y1, y2, y10, y11, y20, y21, j10, j11, j20, j21⟩ := KEEP2.out wo (HBD.out.trans (hyo.mono HBD.out.size)); have HYO := Lib.hid hyo; have Y1 := Lib.hid y1; have Y2 := Lib.hid y2; have HO := Lib.hid ho; obtain ⟨so, Ao, no, co, lo, rfl, -⟩ := ho; clear hbo hyo y1 y2)
    all_goals
     go_wp2
     have hza : sg s2 (val l2) = 0 := by rw [← Z2.out, HZ.out]; cases t2 <;> rfl
     have hna : NumAt wo wo.heap.size (.agg #[.bool t1, .slice A1 m1 c1]) (sg s1 (val l1)) := ⟨t1, A1, m1, c1, _, rfl, HLL1.out.below HYO.out (Nat.le_refl _) HYO.out.size, hn1, Z1.out.symm⟩
     have hbl : Below w.heap.size w wo := HBW2.out.trans (HYO.out.mono HBW2.out.size)
     refine bodyPost_ret (v := .tuple #[.agg #[.bool t1, .slice A1 m1 c1], .agg #[.bool so, .slice Ao no co]]) (by simp [results, Tryz.results73, go_sem, y10, y11, y20, y21]) rfl
      ⟨(((hbl.setCell (by first | (simp; done) | (simp; omega) | omega) _).setCell (by first | (simp; done) | (simp; omega) | omega) _).setCell (by first | (simp; done) | (simp; omega) | omega) _).setCell (by first | (simp; done) | (simp; omega) | omega) _, _, _, sg s1 (val l1), 1, rfl, (hna.past2 Y1.out Y2.out (step_ne _) _ _ _ _).mono (by simp), (HO.out.num.past2 Y1.out Y2.out (step_ne _) _ _ _ _).mono (by simp), .inl ⟨hza, rfl, rfl⟩⟩
  · have hd : decide (val (l2.take m2) = 0) = false := by simpa using hz
    rw [hd]
    have HZ := Lib.hid hz
    clear hd hz
    cases t2
    · go_upto_region 6 with fail
      go_region
      all_goals
       go_wp2
       have hza : 0 < sg s2 (val l2) := by rw [← Z2.out, sg_false]; have := HZ.out; omega
       have hna : NumAt wd wd.heap.size (.agg #[.bool t1, .slice A1 m1 c1]) (sg s1 (val l1)) := ⟨t1, A1, m1, c1, _, rfl, HLL1.out, hn1, Z1.out.symm⟩
       have hnb : NumAt wd wd.heap.size (.agg #[.bool false, .slice A2 m2 c2]) (sg s2 (val l2)) := ⟨false, A2, m2, c2, _, rfl, HLL2.out, hn2, Z2.out.symm⟩
       have hbl : Below w.heap.size w wd := HBW2.out
       refine bodyPost_ret (v := .tuple #[.agg #[.bool t1, .slice A1 m1 c1], .agg #[.bool false, .slice A2 m2 c2]]) (by simp [results, Tryz.results73, go_sem, q10, q11, q20, q21]) rfl
        ⟨((((hbl.setCell (by first | (simp; done) | (simp; omega) | omega) _).setCell (by first | (simp; done) | (simp; omega) | omega) _).setCell (by first | (simp; done) | (simp; omega) | omega) _).setCell (by first | (simp; done) | (simp; omega) | omega) _).drew, _, _, sg s1 (val l1), sg s2 (val l2), rfl, ((hna.past2 Q1.out Q2.out (step_ne _) _ _ _ _).below (Below.refl _ _).drew (Nat.le_refl _) (by simp)), ((hnb.past2 Q1.out Q2.out (step_ne _) _ _ _ _).below (Below.refl _ _).drew (Nat.le_refl _) (by simp)), .inr (.inr ⟨hza, rfl, rfl⟩)⟩
    · go_upto_region 5 with fail
      go_region_with (first
       | (go_at_call_of 64 (Value.agg #[.bool t1, .slice A1 m1 c1]); refine (opposite_any _ _ _ _ _).mono ?_; rintro e wo ⟨rfl, hbo⟩; have hyo : Below wd.heap.size wd wo := Below.trans (by repeat (first | exact Below.refl _ _ | assumption | refine Below.drew ?_ | refine Below.drewN ?_ _ | refine Below.alloc ?_ (by simp <;> omega) _ | refine Below.setCell ?_ (by simp <;> omega) _)) hbo; obtain ⟨-, -, y10, y11, y20, y21, -⟩ := KEEP2.out wo (HBD.out.trans (hyo.mono HBD.out.size)); have HYO := Lib.hid hyo; clear hbo hyo)
       | (go_at_call_of 64 (Value.agg #[.bool true, .slice A2 m2 c2]); refine (opposite_any _ _ _ _ _).mono ?_; rintro e wp ⟨rfl, hbp⟩; have hyp : Below wd.heap.size wd wp := HYO.out.trans (Below.mono (Below.trans (by repeat (first | exact Below.refl _ _ | assumption | refine Below.drew ?_ | refine Below.drewN ?_ _ | refine Below.alloc ?_ (by simp <;> omega) _ | refine Below.setCell ?_ (by simp <;> omega) _)) hbp) HYO.out.size); obtain ⟨v1, v2, v10, v11, v20, v21, u10, u11, u20, u21⟩ := KEEP2.out wp (HBD.out.trans (hyp.mono HBD.out.size)); have HYP := Lib.hid hyp; have V1 := Lib.hid v1; have V2 := Lib.hid v2; clear hbp hyp v1 v2))
      all_goals
       go_wp2
       have hza : sg s2 (val l2) < 0 := by rw [← Z2.out, sg_true]; have := HZ.out; omega
       have hna : NumAt wp wp.heap.size (.agg #[.bool (!t1), .slice A1 m1 c1]) (-(sg s1 (val l1))) := ⟨!t1, A1, m1, c1, _, rfl, HLL1.out.below HYP.out (Nat.le_refl _) HYP.out.size, hn1, by rw [sg_not, Z1.out]⟩
       have hnb : NumAt wp wp.heap.size (.agg #[.bool false, .slice A2 m2 c2]) (-(sg s2 (val l2))) := ⟨false, A2, m2, c2, _, rfl, HLL2.out.below HYP.out (Nat.le_refl _) HYP.out.size, hn2, by rw [← Z2.out, ← sg_not]; rfl⟩
       have hbl : Below w.heap.size w wp := HBW2.out.trans (HYP.out.mono HBW2.out.size)
       refine bodyPost_ret (v := .tuple #[.agg #[.bool (!t1), .slice A1 m1 c1], .agg #[.bool false, .slice A2 m2 c2]]) (by simp [results, Tryz.results73, go_sem, v10, v11, v20, v21]) rfl
        ⟨(((hbl.setCell (by first | (simp; done) | (simp; omega) | omega) _).setCell (by first | (simp; done) | (simp; omega) | omega) _).setCell (by first | (simp; done) | (simp; omega) | omega) _).setCell (by first | (simp; done) | (simp; omega) | omega) _, _, _, -(sg s1 (val l1)), -(sg s2 (val l2)), rfl, (hna.past2 V1.out V2.out (step_ne _) _ _ _ _).mono (by simp), (hnb.past2 V1.out V2.out (step_ne _) _ _ _ _).mono (by simp), .inr (.inl ⟨hza, rfl, rfl⟩)⟩
end Go.Proofs.YthlfhfkfjefidaaGreat
/- Fractions as Lean's Rat. -/
namespace Go.Proofs.YthlfhfkfjefidaaGreat
open Go.RowKit
theorem gcd_sg (s t : Bool) (a b : Nat) : (sg t b).gcd (sg s a) = Nat.gcd b a := by
 cases s <;> cases t <;> simp [sg, Int.gcd]
theorem sg_div (s : Bool) {a g : Nat} (h : g ∣ a) : sg s a / (g : Int) = sg s (a / g) := by
 cases s
 · rw [sg_false, sg_false, Int.natCast_ediv]
 · rw [sg_true, sg_true, Int.neg_ediv_of_dvd (Int.natCast_dvd_natCast.mpr h), Int.natCast_ediv]
theorem sign_sg (s t : Bool) {a b : Nat} (hb : 0 < b) : (sg t b).sign * sg s a = sg (s != t) a := by
 have h : Int.sign (b : Int) = 1 := Int.sign_eq_one_of_pos (by omega)
 cases s <;> cases t <;> simp [sg, h]
theorem rat_num (s t : Bool) (a b : Nat) (hb : 0 < b) : (Rat.divInt (sg s a) (sg t b)).num = sg (s != t) (a / Nat.gcd a b) := by
 rw [Rat.num_divInt, gcd_sg, Nat.gcd_comm, sign_sg s t hb, sg_div _ (Nat.gcd_dvd_left _ _)]
theorem rat_den (s t : Bool) (a b : Nat) (hb : 0 < b) : (Rat.divInt (sg s a) (sg t b)).den = b / Nat.gcd a b := by
 rw [Rat.den_divInt, gcd_sg, Nat.gcd_comm]
 have h0 : sg t b ≠ 0 := by cases t <;> simp [sg] <;> omega
 rw [if_neg h0]
 have : (sg t b).natAbs = b := by cases t <;> simp [sg]
 rw [this]
def RatAt (w : World) (B : Nat) (v : Value) (x : Rat) : Prop := PairAt w B v x.num (x.den : Int)
def RatR (x : Rat) (w : World) (e : Ending) (w' : World) : Prop := Below w.heap.size w w' ∧ ∃ v, e = .returned v ∧ RatAt w' w'.heap.size v x
theorem fraction_num (u v : Value) (p q : Int) (w : World) (hu : NumAt w w.heap.size u p) (hv : NumAt w w.heap.size v q) (hp : p.natAbs < W 536870912) (hq : q.natAbs < W 536870912) (h0 : 0 < q) :
 Calls Tryz.prog 71 #[u, v] w (RatR (Rat.divInt p q) w) := by
 obtain ⟨s1, A1, n1, c1, l1, rfl, L1, N1, rfl⟩ := hu
 obtain ⟨s2, A2, n2, c2, l2, rfl, L2, N2, rfl⟩ := hv
 have e1 : (sg s1 (val l1)).natAbs = val l1 := by cases s1 <;> simp [sg]
 have e2 : (sg s2 (val l2)).natAbs = val l2 := by cases s2 <;> simp [sg]
 rw [e1] at hp
 rw [e2] at hq
 have m1 := norm_len_le N1 hp
 have m2 := norm_len_le N2 hq
 rw [L1.len] at m1
 rw [L2.len] at m2
 have h3 : 0 < val l2 := by
  rcases Nat.eq_zero_or_pos (val l2) with h | h
  · rw [h] at h0; cases s2 <;> simp [sg] at h0
  · exact h
 refine (fraction_any s1 s2 A1 A2 n1 c1 n2 c2 l1 l2 w L1 L2 N1 N2 m1 m2 h3).mono ?_
 rintro e w' ⟨hb, r, rfl, hr⟩
 refine ⟨hb, r, rfl, ?_⟩
 unfold RatAt
 rw [rat_num _ _ _ _ h3, rat_den _ _ _ _ h3]
 exact hr
end Go.Proofs.YthlfhfkfjefidaaGreat
/- The walks of Whole and Normal. -/
namespace Go.Proofs.YthlfhfkfjefidaaGreat
open Go.RowKit
def frac (a b : Int) : Rat := if b = 0 then Rat.divInt a 1 else Rat.divInt a b
theorem Terms.frac {a b p q : Int} (h : Terms a b p q) : Rat.divInt p q = frac a b ∧ 0 < q := by
 rcases h with ⟨rfl, rfl, rfl⟩ | ⟨hb, rfl, rfl⟩ | ⟨hb, rfl, rfl⟩
 · exact ⟨rfl, by omega⟩
 · refine ⟨?_, by omega⟩
   rw [Go.Proofs.YthlfhfkfjefidaaGreat.frac, if_neg (by omega), Rat.neg_divInt_neg]
 · exact ⟨by rw [Go.Proofs.YthlfhfkfjefidaaGreat.frac, if_neg (by omega)], hb⟩
theorem Terms.bounds {a b p q : Int} (h : Terms a b p q) {k : Nat} (ha : a.natAbs < W k) (hb : b.natAbs < W k) (hk : 0 < k) : p.natAbs < W k ∧ q.natAbs < W k := by
 have h1 : W 1 ≤ W k := W_mono hk
 have h2 : W 1 = 4294967296 := by decide
 rcases h with ⟨rfl, rfl, rfl⟩ | ⟨h0, rfl, rfl⟩ | ⟨h0, rfl, rfl⟩ <;> refine ⟨by omega, by omega⟩
theorem IntAt.other {w w' : World} {B : Nat} {v : Value} {z : Int} (h : IntAt w B v z) {g t : Nat} {cs : Array Value} (hb : Bk w g t cs) (hcs : ∀ (k : Nat) (z : Int), cs[k]? ≠ some (.int .u32 z)) (hw : ∀ a : Addr, a.block ≠ g → w'.cell? a = w.cell? a) : IntAt w' B v z := by
 obtain ⟨s, A, n, c, l, e, hl, hn, hz, hs⟩ := h
 exact ⟨s, A, n, c, l, e, hl.other hb hcs hw, hn, hz, hs⟩
theorem sg_natAbs (s : Bool) (n : Nat) : (sg s n).natAbs = n := by cases s <;> simp [sg]
theorem sg_below {s : Bool} {l : List Nat} {n k : Nat} (hl : Bd l) (hn : l.length = n) (hk : n ≤ k) : (sg s (val l)).natAbs < W k := by
 rw [sg_natAbs]
 exact Nat.lt_of_lt_of_le (by have := val_lt hl; rwa [hn] at this) (W_mono hk)
end Go.Proofs.YthlfhfkfjefidaaGreat
/- The walk of Whole. -/
namespace Go.Proofs.YthlfhfkfjefidaaGreat
open Go.RowKit
theorem intR_num {z : Int} {w w' : World} {e : Ending} (h : IntR z w e w') : Below w.heap.size w w' ∧ ∃ v, e = .returned v ∧ NumAt w' w'.heap.size v z := by
 obtain ⟨hb, v, he, hv⟩ := h
 exact ⟨hb, v, he, hv.num⟩
set_option maxRecDepth 100000 in
set_option maxHeartbeats 4000000 in
theorem whole_any (m : Int) (w : World) (h1 : -9223372036854775808 ≤ m) (h2 : m ≤ 9223372036854775807) :
 Calls Tryz.prog 28 #[.int .i64 m] w (RatR (m : Rat) w) := by
 go_enter Tryz.func28, Tryz.ntmps28
 go_wp2_with fail
 refine (of_any m _ h1 h2).mono ?_
 intro e wa hr
 obtain ⟨hba, u, rfl, hu⟩ := intR_num hr
 clear hr
 go_wp2_with fail
 refine (of_any 1 _ (by omega) (by omega)).mono ?_
 intro e wb hr
 obtain ⟨hbb, v, rfl, hv⟩ := intR_num hr
 clear hr
 have hba2 : Below w.heap.size w wa := ((Below.refl _ _).alloc (Nat.le_refl _) _).trans (hba.mono (by simp))
 have hbel : Below w.heap.size w wb := hba2.trans (hbb.mono hba2.size)
 have k2 : Bk wb w.heap.size 41 #[.bool false, .slice none 0 0, .bool false, .slice none 0 0] := (hbb.block _ (Nat.lt_of_lt_of_le (by simp) hba.size)).trans ((hba.block _ (by first | (simp; done) | (simp; omega) | omega)).trans (Bk.alloc_ w _ _))
 have hu2 := hu.below hbb (Nat.le_refl _) hbb.size
 have hW : W 1 ≤ W 536870912 := W_mono (by omega)
 have hW2 : W 2 ≤ W 536870912 := W_mono (by omega)
 have hW1 : W 1 = 4294967296 := by decide
 have hW3 : W 2 = 18446744073709551616 := by decide
 have HP := Lib.hid (fraction_num u v m 1 wb hu2 hv (by omega) (by omega) (by omega))
 have HF : Hid (Rat.divInt m 1 = (m : Rat)) := Rat.ext (by rw [Rat.num_divInt]; simp) (by rw [Rat.den_divInt]; simp)
 have HBEL := Lib.hid hbel
 have K2 := Lib.hid k2
 clear hba hbb hu hv hu2 hba2 hbel k2 hW hW1 hW2 hW3
 go_wp2_with fail
 refine HP.out.mono ?_
 rintro e wf ⟨hbf, r, rfl, hr⟩
 have hbl := HBEL.out.trans (hbf.mono HBEL.out.size)
 have k3 := K2.out.below hbf K2.out.lt
 obtain ⟨s, A, n, c, t, A', n', c', rfl, hr1, hr2⟩ := hr
 have e0 : wf.cell? ⟨w.heap.size, 0, none⟩ = some (.bool false) := by simpa using k3.cell 0
 have e1 : wf.cell? ⟨w.heap.size, 1, none⟩ = some (.slice none 0 0) := by simpa using k3.cell 1
 have e2 : wf.cell? ⟨w.heap.size, 2, none⟩ = some (.bool false) := by simpa using k3.cell 2
 have e3 : wf.cell? ⟨w.heap.size, 3, none⟩ = some (.slice none 0 0) := by simpa using k3.cell 3
 have f0 := k3.frozen 0
 have f1 := k3.frozen 1
 have f2 := k3.frozen 2
 have f3 := k3.frozen 3
 have R1 := Lib.hid hr1
 have R2 := Lib.hid hr2
 have HBL := Lib.hid hbl
 have K3 := Lib.hid k3
 clear hr1 hr2 hbl k3 hbf
 go_wp2
 have hs : Hid (∀ a : Addr, a.block ≠ w.heap.size → ((((wf.setCell ⟨w.heap.size, 0, none⟩ (.bool s)).setCell ⟨w.heap.size, 1, none⟩ (.slice A n c)).setCell ⟨w.heap.size, 2, none⟩ (.bool t)).setCell ⟨w.heap.size, 3, none⟩ (.slice A' n' c')).cell? a = wf.cell? a) := set4_other _ _ _ _ _ _
 refine bodyPost_ret (v := .agg #[.bool s, .slice A n c, .bool t, .slice A' n' c']) (by simp [results, Tryz.results28, go_sem, e0, e1, e2, e3]) rfl ⟨(((HBL.out.setCell (by first | (simp; done) | (simp; omega) | omega) _).setCell (by first | (simp; done) | (simp; omega) | omega) _).setCell (by first | (simp; done) | (simp; omega) | omega) _).setCell (by first | (simp; done) | (simp; omega) | omega) _, _, rfl, _, _, _, _, _, _, _, _, rfl, ?_, ?_⟩
 · rw [← HF.out]; exact (R1.out.other K3.out (fun _ _ => rat_cells) hs.out).mono (by simp)
 · rw [← HF.out]; exact (R2.out.other K3.out (fun _ _ => rat_cells) hs.out).mono (by simp)
end Go.Proofs.YthlfhfkfjefidaaGreat
/- The walk of Floor. -/
namespace Go.Proofs.YthlfhfkfjefidaaGreat
open Go.RowKit
def tnum (a b : Int) : Int := if b < 0 then -a else a
def tden (b : Int) : Int := if b = 0 then 1 else if b < 0 then -b else b
theorem Terms.eq {a b p q : Int} (h : Terms a b p q) : p = tnum a b ∧ q = tden b := by
 unfold tnum tden
 rcases h with ⟨rfl, rfl, rfl⟩ | ⟨hb, rfl, rfl⟩ | ⟨hb, rfl, rfl⟩
 · simp
 · rw [if_pos hb, if_neg (by omega), if_pos hb]; exact ⟨rfl, rfl⟩
 · rw [if_neg (by omega), if_neg (by omega), if_neg (by omega)]; exact ⟨rfl, rfl⟩
end Go.Proofs.YthlfhfkfjefidaaGreat
/- Fractions as arguments and results: the contracts in one form; Lean's Rat. -/
namespace Go.Proofs.YthlfhfkfjefidaaGreat
open Go.RowKit
structure RatH (w0 : World) (s1 : Bool) (A1 : Option Addr) (n1 c1 : Nat) (s2 : Bool) (A2 : Option Addr) (n2 c2 : Nat) (x : Rat) (K : Nat) (nf : Bool) : Prop where
 lim : ∃ l1 l2, (∀ w', Below w0.heap.size w0 w' → Lim w' w'.heap.size A1 n1 c1 l1) ∧ (∀ w', Below w0.heap.size w0 w' → Lim w' w'.heap.size A2 n2 c2 l2) ∧ x = frac (sg s1 (val l1)) (sg s2 (val l2)) ∧
  (nf = true → Norm l1 ∧ (s1 = true → 0 < n1) ∧ Norm l2 ∧ (s2 = true → 0 < n2) ∧ x.num = sg s1 (val l1) ∧ (x.den : Int) = sg s2 (val l2))
 len1 : n1 ≤ K
 len2 : n2 ≤ K
theorem frac_rat (x : Rat) : frac x.num (x.den : Int) = x := by
 have h : (x.den : Int) ≠ 0 := by have := x.den_pos; omega
 unfold frac
 rw [if_neg h]
 exact Rat.num_divInt_den x
abbrev MakesRat (x : Rat) (K : Nat) (w : World) (e : Ending) (w' : World) : Prop := Below w.heap.size w w' ∧ ∃ s1 A1 n1 c1 s2 A2 n2 c2, e = .returned (.agg #[.bool s1, .slice A1 n1 c1, .bool s2, .slice A2 n2 c2]) ∧ RatH w' s1 A1 n1 c1 s2 A2 n2 c2 x K true
section
variable {w w' : World} {x : Rat} {K : Nat} {e : Ending}
theorem makesR_of (h : RatR x w e w') (h1 : x.num.natAbs < W K) (h2 : x.den < W K) : MakesRat x K w e w' := by
 obtain ⟨hb, v, rfl, s, A, n, c, t, A', n', c', rfl, ha, hd⟩ := h
 refine ⟨hb, s, A, n, c, t, A', n', c', rfl, ?_⟩
 obtain ⟨s1, A1, n1, c1, l1, e1, L1, N1, z1, p1⟩ := ha
 obtain ⟨s2, A2, n2, c2, l2, e2, L2, N2, z2, p2⟩ := hd
 simp only [Value.agg.injEq, Array.mk.injEq, List.cons.injEq, Value.bool.injEq, Value.slice.injEq, and_true] at e1 e2
 obtain ⟨rfl, rfl, rfl, rfl⟩ := e1
 obtain ⟨rfl, rfl, rfl, rfl⟩ := e2
 refine ⟨⟨l1, l2, fun w' hb => L1.below hb (Nat.le_refl _) hb.size, fun w' hb => L2.below hb (Nat.le_refl _) hb.size, ?_, fun _ => ⟨N1, p1, N2, p2, z1, z2⟩⟩, ?_, ?_⟩
 · rw [← z1, ← z2]; exact (frac_rat x).symm
 · rw [z1, sg_abs] at h1
   have := norm_len_le N1 h1
   rwa [L1.len] at this
 · have h3 : (x.den : Int).natAbs < W K := by simpa using h2
   rw [z2, sg_abs] at h3
   have := norm_len_le N2 h3
   rwa [L2.len] at this
theorem divInt_bd {p q : Int} (hq : 0 < q) : (Rat.divInt p q).num.natAbs ≤ p.natAbs ∧ (Rat.divInt p q).den ≤ q.natAbs := by
 obtain ⟨b, rfl⟩ : ∃ b : Nat, q = (b : Int) := ⟨q.toNat, by omega⟩
 obtain ⟨s, a, rfl⟩ : ∃ s a, p = sg s a := by
  rcases Int.lt_or_le p 0 with h | h
  · exact ⟨true, p.natAbs, by simp [sg]; omega⟩
  · exact ⟨false, p.natAbs, by simp [sg]; omega⟩
 have hn := rat_num s false a b (by omega)
 have hd := rat_den s false a b (by omega)
 rw [sg_false] at hn hd
 rw [hn, hd, sg_abs, sg_abs]
 exact ⟨Nat.div_le_self _ _, by simpa using Nat.div_le_self b _⟩
theorem RatH.stored {w0 w' : World} {s1 : Bool} {A1 : Option Addr} {n1 c1 : Nat} {s2 : Bool} {A2 : Option Addr} {n2 c2 : Nat} {x : Rat} {K : Nat} {nf : Bool} (h : RatH w0 s1 A1 n1 c1 s2 A2 n2 c2 x K nf) {g t : Nat} {a b : Bool} {A C : Option Addr} {n c m d : Nat}
 (hb : Bk w0 g t #[.bool a, .slice A n c, .bool b, .slice C m d]) (hw : ∀ p : Addr, p.block ≠ g → w'.cell? p = w0.cell? p) (hs : w'.heap.size = w0.heap.size) : RatH w' s1 A1 n1 c1 s2 A2 n2 c2 x K nf := by
 obtain ⟨l1, l2, h1, h2, h3, h4⟩ := h.lim
 exact ⟨⟨l1, l2, fun u hu => ((h1 w0 (Below.refl _ _)).other hb (fun k z => rat_cells) hw).below hu (by rw [hs]; exact Nat.le_refl _) (by have := hu.size; omega),
  fun u hu => ((h2 w0 (Below.refl _ _)).other hb (fun k z => rat_cells) hw).below hu (by rw [hs]; exact Nat.le_refl _) (by have := hu.size; omega), h3, h4⟩, h.len1, h.len2⟩
theorem IntH.of_num {v : Value} {z : Int} (h : NumAt w w.heap.size v z) (hz : z.natAbs < W K) : ∃ s A n c, v = .agg #[.bool s, .slice A n c] ∧ IntH w s A n c z K false := by
 obtain ⟨s, A, n, c, l, e, hl, hn, hzz⟩ := h
 refine ⟨s, A, n, c, e, ⟨l, fun w' hb => hl.below hb (Nat.le_refl _) hb.size, hzz, fun h => by cases h⟩, ?_⟩
 rw [hzz, sg_abs] at hz
 have := norm_len_le hn hz
 rwa [hl.len] at this
theorem termsH {w1 : World} {s1 : Bool} {A1 : Option Addr} {n1 c1 : Nat} {s2 : Bool} {A2 : Option Addr} {n2 c2 : Nat} {nf : Bool} (h : RatH w1 s1 A1 n1 c1 s2 A2 n2 c2 x K nf) (b1 : Below w1.heap.size w1 w) :
 Calls Tryz.prog 73 #[.agg #[.bool s1, .slice A1 n1 c1, .bool s2, .slice A2 n2 c2]] w fun e w' => Below w.heap.size w w' ∧ ∃ s A n c s' A' n' c' p q, e = .returned (.tuple #[.agg #[.bool s, .slice A n c], .agg #[.bool s', .slice A' n' c']]) ∧
  IntH w' s A n c p (K + 1) false ∧ IntH w' s' A' n' c' q (K + 1) false ∧ Rat.divInt p q = x ∧ 0 < q := by
 obtain ⟨l1, l2, h1, h2, h3, -⟩ := h.lim
 have L1 := h1 w b1
 have L2 := h2 w b1
 refine (terms_any s1 s2 A1 A2 n1 c1 n2 c2 l1 l2 w L1 L2).mono fun e w' hh => ?_
 obtain ⟨hb, u, v, p, q, rfl, hu, hv, ht⟩ := hh
 have e1 := sg_below (s := s1) L1.bd L1.len (Nat.le_succ_of_le h.len1)
 have e2 := sg_below (s := s2) L2.bd L2.len (Nat.le_succ_of_le h.len2)
 obtain ⟨k1, k2⟩ := ht.bounds e1 e2 (Nat.succ_pos K)
 obtain ⟨s, A, n, c, rfl, i1⟩ := IntH.of_num hu k1
 obtain ⟨s', A', n', c', rfl, i2⟩ := IntH.of_num hv k2
 obtain ⟨f1, f2⟩ := ht.frac
 exact ⟨hb, s, A, n, c, s', A', n', c', p, q, rfl, i1, i2, by rw [f1, h3], f2⟩
end
end Go.Proofs.YthlfhfkfjefidaaGreat
