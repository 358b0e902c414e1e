/- The walk of terms. -/
import Derived.Test.YtgfbanlefkajhaaGreatFraction
import Derived.Test.YtgfbanlefkajhaaGreatOf
namespace Go.Proofs.YtgfbanlefkajhaaGreat
open Go.RowKit

/-- v is an integer whose limbs are in normal form, and its value is z; a zero may bear a sign. -/
def NumAt (w : World) (B : Nat) (v : Value) (z : Int) : Prop := ∃ s A n c l, v = .agg #[.bool s, .slice A n c] ∧ Lim w B A n c l ∧ Norm l ∧ z = sg s (val l)
theorem IntAt.num {w : World} {B : Nat} {v : Value} {z : Int} (h : IntAt w B v z) : NumAt w B v z := by
  obtain ⟨s, A, n, c, l, e, hl, hn, hz, _⟩ := h
  exact ⟨s, A, n, c, l, e, hl, hn, hz⟩
theorem NumAt.below {w w' : World} {B B' : Nat} {v : Value} {z : Int} (h : NumAt w B v z) {D : Nat} (hb : Below D w w') (hD : B ≤ D) (hB : B ≤ B') : NumAt w' B' v z := by
  obtain ⟨s, A, n, c, l, e, hl, hn, hz⟩ := h
  exact ⟨s, A, n, c, l, e, hl.below hb hD hB, hn, hz⟩

theorem NumAt.mono {w : World} {B B' : Nat} {v : Value} {z : Int} (h : NumAt w B v z) (hB : B ≤ B') : NumAt w B' v z := h.below (Below.refl B w) (Nat.le_refl _) hB
theorem NumAt.past2 {w : World} {B g1 g2 t t' : Nat} {a : Value} {z : Int} {x x' : Bool} {y1 y1' : Option Addr} {y2 y3 y2' y3' : Nat} (h : NumAt w B a z) (k1 : Bk w g1 t #[.bool x, .slice y1 y2 y3]) (k2 : Bk w g2 t' #[.bool x', .slice y1' y2' y3']) (hne : g1 ≠ g2) (u v u' v' : Value) :
    NumAt ((((w.setCell ⟨g1, 0, none⟩ u).setCell ⟨g1, 1, none⟩ v).setCell ⟨g2, 0, none⟩ u').setCell ⟨g2, 1, none⟩ v') B a z := by
  obtain ⟨s, A, n, c, l, e, hl, hn, hz⟩ := h
  exact ⟨s, A, n, c, l, e, (hl.past k1 u v).past ((k2.other (p := ⟨g1, 0, none⟩) (Ne.symm hne) u).other (p := ⟨g1, 1, none⟩) (Ne.symm hne) v) u' v', hn, hz⟩
theorem step_ne (n : Nat) : n + 1 ≠ n + 1 + 1 := by omega

/-- The terms of a/b. -/
def Terms (a b p q : Int) : Prop := (b = 0 ∧ p = a ∧ q = 1) ∨ (b < 0 ∧ p = -a ∧ q = -b) ∨ (0 < b ∧ p = a ∧ q = b)
/-- Behind 'num, den = read(x.Num), read(x.Den)'. -/
def TermsCut (w : World) (s1 s2 : Bool) (A1 A2 : Option Addr) (n1 c1 n2 c2 : Nat) (l1 l2 : List Nat) (wx : World) : Prop :=
  ∃ m1 m2, m1 ≤ n1 ∧ val (l1.take m1) = val l1 ∧ Norm (l1.take m1) ∧ m2 ≤ n2 ∧ val (l2.take m2) = val l2 ∧ Norm (l2.take m2) ∧ Below w.heap.size w wx ∧
    Bk wx (w.heap.size + 1) 24 #[.bool (s1 && decide (0 < m1)), .slice A1 m1 c1] ∧ Bk wx (w.heap.size + 1 + 1) 24 #[.bool (s2 && decide (0 < m2)), .slice A2 m2 c2]


set_option maxRecDepth 100000 in
set_option maxHeartbeats 4000000 in
theorem terms_any (s1 s2 : Bool) (A1 A2 : Option Addr) (n1 c1 n2 c2 : Nat) (l1 l2 : List Nat) (w : World) (h1 : Lim w w.heap.size A1 n1 c1 l1) (h2 : Lim w w.heap.size A2 n2 c2 l2) :
    Calls Tryz.prog 57 #[.agg #[.bool s1, .slice A1 n1 c1, .bool s2, .slice A2 n2 c2]] w fun e w' => Below w.heap.size w w' ∧ ∃ u v p q, e = .returned (.tuple #[u, v]) ∧
      NumAt w' w'.heap.size u p ∧ NumAt w' w'.heap.size v q ∧ Terms (sg s1 (val l1)) (sg s2 (val l2)) p q := by
  have H1 : Hid (∀ w', Below w.heap.size w w' → Lim w' w'.heap.size A1 n1 c1 l1) := fun w' hb => h1.below hb (Nat.le_refl _) hb.size
  have H2 : Hid (∀ w', Below w.heap.size w w' → Lim w' w'.heap.size A2 n2 c2 l2) := fun w' hb => h2.below hb (Nat.le_refl _) hb.size
  have HN1 := Lib.hid h1.len
  have HN2 := Lib.hid h2.len
  clear h1 h2
  have x1 : Bk (((w.alloc (.cells #[.bool s1, .slice A1 n1 c1, .bool s2, .slice A2 n2 c2] 41)).alloc (.cells #[.bool false, .slice none 0 0] 24)).alloc (.cells #[.bool false, .slice none 0 0] 24)) w.heap.size 41 #[.bool s1, .slice A1 n1 c1, .bool s2, .slice A2 n2 c2] := ((Bk.alloc_ w 41 #[.bool s1, .slice A1 n1 c1, .bool s2, .slice A2 n2 c2]).alloc _).alloc _
  have x2 : Bk (((w.alloc (.cells #[.bool s1, .slice A1 n1 c1, .bool s2, .slice A2 n2 c2] 41)).alloc (.cells #[.bool false, .slice none 0 0] 24)).alloc (.cells #[.bool false, .slice none 0 0] 24)) (w.heap.size + 1) 24 #[.bool false, .slice none 0 0] := (alloc2_bk w _ _ _).alloc _
  have x3 : Bk (((w.alloc (.cells #[.bool s1, .slice A1 n1 c1, .bool s2, .slice A2 n2 c2] 41)).alloc (.cells #[.bool false, .slice none 0 0] 24)).alloc (.cells #[.bool false, .slice none 0 0] 24)) (w.heap.size + 1 + 1) 24 #[.bool false, .slice none 0 0] := by have h := alloc2_bk (w.alloc (.cells #[.bool s1, .slice A1 n1 c1, .bool s2, .slice A2 n2 c2] 41)) (.cells #[.bool false, .slice none 0 0] 24) 24 #[.bool false, .slice none 0 0]; rw [World.size_alloc] at h; exact h
  have KEEP : Hid (∀ w', Below (((w.alloc (.cells #[.bool s1, .slice A1 n1 c1, .bool s2, .slice A2 n2 c2] 41)).alloc (.cells #[.bool false, .slice none 0 0] 24)).alloc (.cells #[.bool false, .slice none 0 0] 24)).heap.size (((w.alloc (.cells #[.bool s1, .slice A1 n1 c1, .bool s2, .slice A2 n2 c2] 41)).alloc (.cells #[.bool false, .slice none 0 0] 24)).alloc (.cells #[.bool false, .slice none 0 0] 24)) w' → Bk w' (w.heap.size + 1) 24 #[.bool false, .slice none 0 0] ∧ Bk w' (w.heap.size + 1 + 1) 24 #[.bool false, .slice none 0 0] ∧
      w'.cell? ⟨w.heap.size, 0, none⟩ = some (.bool s1) ∧ w'.cell? ⟨w.heap.size, 1, none⟩ = some (.slice A1 n1 c1) ∧ w'.cell? ⟨w.heap.size, 2, none⟩ = some (.bool s2) ∧ w'.cell? ⟨w.heap.size, 3, none⟩ = some (.slice A2 n2 c2) ∧
      w'.cell? ⟨w.heap.size + 1, 0, none⟩ = some (.bool false) ∧ w'.cell? ⟨w.heap.size + 1, 1, none⟩ = some (.slice none 0 0) ∧ w'.cell? ⟨w.heap.size + 1 + 1, 0, none⟩ = some (.bool false) ∧ w'.cell? ⟨w.heap.size + 1 + 1, 1, none⟩ = some (.slice none 0 0) ∧
      w'.frozen? ⟨w.heap.size + 1, 0, none⟩ = false ∧ w'.frozen? ⟨w.heap.size + 1, 1, none⟩ = false ∧ w'.frozen? ⟨w.heap.size + 1 + 1, 0, none⟩ = false ∧ w'.frozen? ⟨w.heap.size + 1 + 1, 1, none⟩ = false) := by
    intro w' hb
    have r1 := x1.below hb x1.lt
    have r2 := x2.below hb x2.lt
    have r3 := x3.below hb x3.lt
    exact ⟨r2, r3, by simpa using r1.cell 0, by simpa using r1.cell 1, by simpa using r1.cell 2, by simpa using r1.cell 3, by simpa using r2.cell 0, by simpa using r2.cell 1, by simpa using r3.cell 0, by simpa using r3.cell 1, r2.frozen 0, r2.frozen 1, r3.frozen 0, r3.frozen 1⟩
  have hbel : Below w.heap.size w (((w.alloc (.cells #[.bool s1, .slice A1 n1 c1, .bool s2, .slice A2 n2 c2] 41)).alloc (.cells #[.bool false, .slice none 0 0] 24)).alloc (.cells #[.bool false, .slice none 0 0] 24)) := alloc3_below _ _ _ _
  have hsz : w.heap.size ≤ (((w.alloc (.cells #[.bool s1, .slice A1 n1 c1, .bool s2, .slice A2 n2 c2] 41)).alloc (.cells #[.bool false, .slice none 0 0] 24)).alloc (.cells #[.bool false, .slice none 0 0] 24)).heap.size := hbel.size
  have HBEL := Lib.hid hbel
  have HSZ := Lib.hid hsz
  clear x1 x2 x3 hbel hsz
  go_enter Tryz.func57, Tryz.ntmps57
  go_upto_region 1 with fail
  have hcx : ∀ (W : World) (o j : Nat) (u : Value), (W.setCell ⟨w.heap.size + 1, o, none⟩ u).cell? ⟨w.heap.size, j, none⟩ = W.cell? ⟨w.heap.size, j, none⟩ := (fun W o j u => World.cell?_setCell_other W _ _ u (fun e => by have := congrArg Addr.block e; simp at this))
  have hcy : ∀ (W : World) (o j : Nat) (u : Value), (W.setCell ⟨w.heap.size + 1 + 1, o, none⟩ u).cell? ⟨w.heap.size, j, none⟩ = W.cell? ⟨w.heap.size, j, none⟩ := (fun W o j u => World.cell?_setCell_other W _ _ u (fun e => by have := congrArg Addr.block e; simp at this; omega))
  obtain ⟨-, -, e10, e11, e12, e13, -⟩ := KEEP.out _ (Below.refl _ _)
  go_cut [] (fun wx => TermsCut w s1 s2 A1 A2 n1 c1 n2 c2 l1 l2 wx)
  case first =>
    go_region_held3 (fun w' => w'.cell? ⟨w.heap.size, 0, none⟩ = some (.bool s1) ∧ w'.cell? ⟨w.heap.size, 1, none⟩ = some (.slice A1 n1 c1) ∧ w'.cell? ⟨w.heap.size, 2, none⟩ = some (.bool s2) ∧ w'.cell? ⟨w.heap.size, 3, none⟩ = some (.slice A2 n2 c2)) (go_keep)
      (first
        | (go_at_call_of 39 (Value.agg #[.bool s1, .slice A1 n1 c1]); refine (read_any s1 A1 n1 c1 l1 _ (H1.out _ HBEL.out.drew)).mono ?_; rintro e wa ⟨hba, sa, ma, rfl, hma, hva, hna, rfl⟩
           have hya : Below (((w.alloc (.cells #[.bool s1, .slice A1 n1 c1, .bool s2, .slice A2 n2 c2] 41)).alloc (.cells #[.bool false, .slice none 0 0] 24)).alloc (.cells #[.bool false, .slice none 0 0] 24)).heap.size (((w.alloc (.cells #[.bool s1, .slice A1 n1 c1, .bool s2, .slice A2 n2 c2] 41)).alloc (.cells #[.bool false, .slice none 0 0] 24)).alloc (.cells #[.bool false, .slice none 0 0] 24)) wa := ((Below.refl _ _).drew).trans hba
           obtain ⟨-, -, qa1, qa2, qa3, qa4, -⟩ := KEEP.out wa hya
           have HYA := Lib.hid hya; clear hya hba)
        | (go_at_call_of 39 (Value.agg #[.bool s2, .slice A2 n2 c2]); refine (read_any s2 A2 n2 c2 l2 _ (H2.out _ (HBEL.out.trans (HYA.out.mono HSZ.out)))).mono ?_; rintro e wb ⟨hbb, sb, mb, rfl, hmb, hvb, hnb, rfl⟩
           have hyb : Below (((w.alloc (.cells #[.bool s1, .slice A1 n1 c1, .bool s2, .slice A2 n2 c2] 41)).alloc (.cells #[.bool false, .slice none 0 0] 24)).alloc (.cells #[.bool false, .slice none 0 0] 24)).heap.size (((w.alloc (.cells #[.bool s1, .slice A1 n1 c1, .bool s2, .slice A2 n2 c2] 41)).alloc (.cells #[.bool false, .slice none 0 0] 24)).alloc (.cells #[.bool false, .slice none 0 0] 24)) wb := HYA.out.trans (hbb.mono HYA.out.size)
           obtain ⟨r2, r3, qb1, qb2, qb3, qb4, qb5, qb6, qb7, qb8, fb1, fb2, fb3, fb4⟩ := KEEP.out wb hyb
           have HYB := Lib.hid hyb; have R2 := Lib.hid r2; have R3 := Lib.hid r3; clear hyb hbb r2 r3))
    go_wp2_with fail
    have hne : w.heap.size + 1 ≠ w.heap.size + 1 + 1 := by omega
    have hst := store_two (w := wb) (x := .bool (s1 && decide (0 < ma))) (y := .slice A1 ma c1) (z := .bool (s2 && decide (0 < mb))) (u := .slice A2 mb c2) R2.out R3.out hne (Fr.of_below (Below.refl _ _))
    have hbl : Below w.heap.size w wb := HBEL.out.trans (HYB.out.mono HSZ.out)
    have HBL := Lib.hid hbl
    have HST := Lib.hid hst
    clear hst hbl
    go_meet
    exact ⟨ma, mb, hma, hva, hna, hmb, hvb, hnb, (((HBL.out.setCell (by first | (simp; done) | (simp; omega) | omega) _).setCell (by first | (simp; done) | (simp; omega) | omega) _).setCell (by first | (simp; done) | (simp; omega) | omega) _).setCell (by first | (simp; done) | (simp; omega) | omega) _, HST.out.1, HST.out.2.1⟩
  case rest =>
    obtain ⟨m1, m2, hm1, hv1, hn1, hm2, hv2, hn2, hbw, k1, k2⟩ := hcut
    obtain ⟨z1, p1⟩ := sg_read (s := s1) hv1 hn1 (by rw [HN1.out]; exact hm1)
    obtain ⟨z2, p2⟩ := sg_read (s := s2) hv2 hn2 (by rw [HN2.out]; exact hm2)
    generalize (s1 && decide (0 < m1)) = t1 at z1 p1 k1
    generalize (s2 && decide (0 < m2)) = t2 at z2 p2 k2
    have L1 := (H1.out wc hbw).take hm1
    have L2 := (H2.out wc hbw).take hm2
    have KEEP2 : Hid (∀ w', Below wc.heap.size wc w' → Bk w' (w.heap.size + 1) 24 #[.bool t1, .slice A1 m1 c1] ∧ Bk w' (w.heap.size + 1 + 1) 24 #[.bool t2, .slice A2 m2 c2] ∧
      w'.cell? ⟨w.heap.size + 1, 0, none⟩ = some (.bool t1) ∧ w'.cell? ⟨w.heap.size + 1, 1, none⟩ = some (.slice A1 m1 c1) ∧ w'.cell? ⟨w.heap.size + 1 + 1, 0, none⟩ = some (.bool t2) ∧ w'.cell? ⟨w.heap.size + 1 + 1, 1, none⟩ = some (.slice A2 m2 c2) ∧
      w'.frozen? ⟨w.heap.size + 1, 0, none⟩ = false ∧ w'.frozen? ⟨w.heap.size + 1, 1, none⟩ = false ∧ w'.frozen? ⟨w.heap.size + 1 + 1, 0, none⟩ = false ∧ w'.frozen? ⟨w.heap.size + 1 + 1, 1, none⟩ = false) := by
      intro w' hb
      have r2 := k1.below hb k1.lt
      have r3 := k2.below hb k2.lt
      exact ⟨r2, r3, by simpa using r2.cell 0, by simpa using r2.cell 1, by simpa using r3.cell 0, by simpa using r3.cell 1, r2.frozen 0, r2.frozen 1, r3.frozen 0, r3.frozen 1⟩
    obtain ⟨-, -, e10, e11, e20, e21, -⟩ := KEEP2.out wc (Below.refl _ _)
    have Z1 := Lib.hid z1
    have Z2 := Lib.hid z2
    have HBW := Lib.hid hbw
    have HO2 := Lib.hid k2.lt
    clear z1 z2 hbw hv1 hv2 k1 k2 p1 p2 hcx hcy
    go_wp2_with fail
    refine (isZero_any t2 A2 m2 c2 (l2.take m2) wc L2).mono ?_
    rintro e wd ⟨rfl, hbd⟩
    have HLL1 := Lib.hid (L1.below hbd (Nat.le_refl _) hbd.size)
    have HLL2 := Lib.hid (L2.below hbd (Nat.le_refl _) hbd.size)
    have HBD := Lib.hid hbd
    have HBW2 := Lib.hid (HBW.out.trans (hbd.mono HBW.out.size))
    obtain ⟨q1, q2, q10, q11, q20, q21, g10, g11, g20, g21⟩ := KEEP2.out wd hbd
    have Q1 := Lib.hid q1
    have Q2 := Lib.hid q2
    clear hbd L1 L2 e10 e11 e20 e21 q1 q2
    by_cases hz : val (l2.take m2) = 0
    · have hd : decide (val (l2.take m2) = 0) = true := by simpa using hz
      rw [hd]
      have HZ := Lib.hid hz
      clear hd hz
      go_upto_region 3 with fail
      go_region_with (go_at_call 11; refine (of_any 1 _ (by omega) (by omega)).mono ?_; rintro e wo ⟨hbo, vo, rfl, ho⟩; have hyo : Below wd.heap.size wd wo := Below.trans (by repeat (first | exact Below.refl _ _ | assumption | refine Below.drew ?_ | refine Below.drewN ?_ _ | refine Below.alloc ?_ (by simp <;> omega) _ | refine Below.setCell ?_ (by simp <;> omega) _)) hbo; obtain ⟨y1, y2, y10, y11, y20, y21, j10, j11, j20, j21⟩ := KEEP2.out wo (HBD.out.trans (hyo.mono HBD.out.size)); have HYO := Lib.hid hyo; have Y1 := Lib.hid y1; have Y2 := Lib.hid y2; have HO := Lib.hid ho; obtain ⟨so, Ao, no, co, lo, rfl, -⟩ := ho; clear hbo hyo y1 y2)
      all_goals
        go_wp2
        have hza : sg s2 (val l2) = 0 := by rw [← Z2.out, HZ.out]; cases t2 <;> rfl
        have hna : NumAt wo wo.heap.size (.agg #[.bool t1, .slice A1 m1 c1]) (sg s1 (val l1)) := ⟨t1, A1, m1, c1, _, rfl, HLL1.out.below HYO.out (Nat.le_refl _) HYO.out.size, hn1, Z1.out.symm⟩
        have hbl : Below w.heap.size w wo := HBW2.out.trans (HYO.out.mono HBW2.out.size)
        refine bodyPost_ret (v := .tuple #[.agg #[.bool t1, .slice A1 m1 c1], .agg #[.bool so, .slice Ao no co]]) (by simp [results, Tryz.results57, go_sem, y10, y11, y20, y21]) rfl
          ⟨(((hbl.setCell (by first | (simp; done) | (simp; omega) | omega) _).setCell (by first | (simp; done) | (simp; omega) | omega) _).setCell (by first | (simp; done) | (simp; omega) | omega) _).setCell (by first | (simp; done) | (simp; omega) | omega) _, _, _, sg s1 (val l1), 1, rfl, (hna.past2 Y1.out Y2.out (step_ne _) _ _ _ _).mono (by simp), (HO.out.num.past2 Y1.out Y2.out (step_ne _) _ _ _ _).mono (by simp), .inl ⟨hza, rfl, rfl⟩⟩
    · have hd : decide (val (l2.take m2) = 0) = false := by simpa using hz
      rw [hd]
      have HZ := Lib.hid hz
      clear hd hz
      cases t2
      · go_upto_region 6 with fail
        go_region
        all_goals
          go_wp2
          have hza : 0 < sg s2 (val l2) := by rw [← Z2.out, sg_false]; have := HZ.out; omega
          have hna : NumAt wd wd.heap.size (.agg #[.bool t1, .slice A1 m1 c1]) (sg s1 (val l1)) := ⟨t1, A1, m1, c1, _, rfl, HLL1.out, hn1, Z1.out.symm⟩
          have hnb : NumAt wd wd.heap.size (.agg #[.bool false, .slice A2 m2 c2]) (sg s2 (val l2)) := ⟨false, A2, m2, c2, _, rfl, HLL2.out, hn2, Z2.out.symm⟩
          have hbl : Below w.heap.size w wd := HBW2.out
          refine bodyPost_ret (v := .tuple #[.agg #[.bool t1, .slice A1 m1 c1], .agg #[.bool false, .slice A2 m2 c2]]) (by simp [results, Tryz.results57, go_sem, q10, q11, q20, q21]) rfl
            ⟨((((hbl.setCell (by first | (simp; done) | (simp; omega) | omega) _).setCell (by first | (simp; done) | (simp; omega) | omega) _).setCell (by first | (simp; done) | (simp; omega) | omega) _).setCell (by first | (simp; done) | (simp; omega) | omega) _).drew, _, _, sg s1 (val l1), sg s2 (val l2), rfl, ((hna.past2 Q1.out Q2.out (step_ne _) _ _ _ _).below (Below.refl _ _).drew (Nat.le_refl _) (by simp)), ((hnb.past2 Q1.out Q2.out (step_ne _) _ _ _ _).below (Below.refl _ _).drew (Nat.le_refl _) (by simp)), .inr (.inr ⟨hza, rfl, rfl⟩)⟩
      · go_upto_region 5 with fail
        go_region_with (first
          | (go_at_call_of 50 (Value.agg #[.bool t1, .slice A1 m1 c1]); refine (opposite_any _ _ _ _ _).mono ?_; rintro e wo ⟨rfl, hbo⟩; have hyo : Below wd.heap.size wd wo := Below.trans (by repeat (first | exact Below.refl _ _ | assumption | refine Below.drew ?_ | refine Below.drewN ?_ _ | refine Below.alloc ?_ (by simp <;> omega) _ | refine Below.setCell ?_ (by simp <;> omega) _)) hbo; obtain ⟨-, -, y10, y11, y20, y21, -⟩ := KEEP2.out wo (HBD.out.trans (hyo.mono HBD.out.size)); have HYO := Lib.hid hyo; clear hbo hyo)
          | (go_at_call_of 50 (Value.agg #[.bool true, .slice A2 m2 c2]); refine (opposite_any _ _ _ _ _).mono ?_; rintro e wp ⟨rfl, hbp⟩; have hyp : Below wd.heap.size wd wp := HYO.out.trans (Below.mono (Below.trans (by repeat (first | exact Below.refl _ _ | assumption | refine Below.drew ?_ | refine Below.drewN ?_ _ | refine Below.alloc ?_ (by simp <;> omega) _ | refine Below.setCell ?_ (by simp <;> omega) _)) hbp) HYO.out.size); obtain ⟨v1, v2, v10, v11, v20, v21, u10, u11, u20, u21⟩ := KEEP2.out wp (HBD.out.trans (hyp.mono HBD.out.size)); have HYP := Lib.hid hyp; have V1 := Lib.hid v1; have V2 := Lib.hid v2; clear hbp hyp v1 v2))
        all_goals
          go_wp2
          have hza : sg s2 (val l2) < 0 := by rw [← Z2.out, sg_true]; have := HZ.out; omega
          have hna : NumAt wp wp.heap.size (.agg #[.bool (!t1), .slice A1 m1 c1]) (-(sg s1 (val l1))) := ⟨!t1, A1, m1, c1, _, rfl, HLL1.out.below HYP.out (Nat.le_refl _) HYP.out.size, hn1, by rw [sg_not, Z1.out]⟩
          have hnb : NumAt wp wp.heap.size (.agg #[.bool false, .slice A2 m2 c2]) (-(sg s2 (val l2))) := ⟨false, A2, m2, c2, _, rfl, HLL2.out.below HYP.out (Nat.le_refl _) HYP.out.size, hn2, by rw [← Z2.out, ← sg_not]; rfl⟩
          have hbl : Below w.heap.size w wp := HBW2.out.trans (HYP.out.mono HBW2.out.size)
          refine bodyPost_ret (v := .tuple #[.agg #[.bool (!t1), .slice A1 m1 c1], .agg #[.bool false, .slice A2 m2 c2]]) (by simp [results, Tryz.results57, go_sem, v10, v11, v20, v21]) rfl
            ⟨(((hbl.setCell (by first | (simp; done) | (simp; omega) | omega) _).setCell (by first | (simp; done) | (simp; omega) | omega) _).setCell (by first | (simp; done) | (simp; omega) | omega) _).setCell (by first | (simp; done) | (simp; omega) | omega) _, _, _, -(sg s1 (val l1)), -(sg s2 (val l2)), rfl, (hna.past2 V1.out V2.out (step_ne _) _ _ _ _).mono (by simp), (hnb.past2 V1.out V2.out (step_ne _) _ _ _ _).mono (by simp), .inr (.inl ⟨hza, rfl, rfl⟩)⟩

end Go.Proofs.YtgfbanlefkajhaaGreat
