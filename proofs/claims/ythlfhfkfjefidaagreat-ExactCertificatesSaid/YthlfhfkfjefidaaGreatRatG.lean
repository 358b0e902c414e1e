/- Several texts in one. -/
import Derived.Test.YthlfhfkfjefidaaGreatAriG
import Derived.Test.YthlfhfkfjefidaaGreatKnuG
/- The walks of quotient and signOf. -/
namespace Go.Proofs.YthlfhfkfjefidaaGreat
open Go.RowKit
theorem IntAt.past {w : World} {B : Nat} {a : Value} {z : Int} (h : IntAt w B a z) {g t : Nat} {x : Bool} {y1 : Option Addr} {y2 y3 : Nat} (hb : Bk w g t #[.bool x, .slice y1 y2 y3]) (u v : Value) :
 IntAt ((w.setCell ⟨g, 0, none⟩ u).setCell ⟨g, 1, none⟩ v) B a z := by
 obtain ⟨s, A, n, c, l, e, hl, hn, hz, hs⟩ := h
 exact ⟨s, A, n, c, l, e, hl.past hb u v, hn, hz, hs⟩
set_option maxRecDepth 100000 in
set_option maxHeartbeats 4000000 in
theorem quotient_any (s1 s2 : Bool) (A1 A2 : Option Addr) (n1 c1 n2 c2 : Nat) (l1 l2 : List Nat) (w : World) (h1 : Lim w w.heap.size A1 n1 c1 l1) (h2 : Lim w w.heap.size A2 n2 c2 l2) (b1 : n1 ≤ 536870912) (b2 : n2 ≤ 536870912) (hy : sg s2 (val l2) ≠ 0) :
 Calls Tryz.prog 152 #[.agg #[.bool s1, .slice A1 n1 c1], .agg #[.bool s2, .slice A2 n2 c2]] w (IntR (sg s1 (val l1) / sg s2 (val l2)) w) := by
 have H1 : Hid (∀ w', Below w.heap.size w w' → Lim w' w'.heap.size A1 n1 c1 l1) := fun w' hb => h1.below hb (Nat.le_refl _) hb.size
 have H2 : Hid (∀ w', Below w.heap.size w w' → Lim w' w'.heap.size A2 n2 c2 l2) := fun w' hb => h2.below hb (Nat.le_refl _) hb.size
 clear h1 h2
 go_enter Tryz.func152, Tryz.ntmps152
 go_wp2_with fail
 refine (divideInt_any s1 s2 A1 A2 n1 c1 n2 c2 l1 l2 _ (H1.out _ (by repeat (first | exact Below.refl _ _ | assumption | refine Below.drew ?_ | refine Below.drewN ?_ _ | refine Below.alloc ?_ (by simp <;> omega) _ | refine Below.setCell ?_ (by simp <;> omega) _))) (H2.out _ (by repeat (first | exact Below.refl _ _ | assumption | refine Below.drew ?_ | refine Below.drewN ?_ _ | refine Below.alloc ?_ (by simp <;> omega) _ | refine Below.setCell ?_ (by simp <;> omega) _))) b1 b2).mono ?_
 rintro e wd ⟨hb, u, v, h⟩
 have hbel : Below w.heap.size w wd := (alloc3_below _ _ _ _).trans (hb.mono (by simp; omega))
 rcases h with ⟨h0, -⟩ | ⟨-, hu, hv, rfl⟩
 · exact absurd h0 hy
 have HU := Lib.hid hu
 obtain ⟨tu, Au, qu, cu, lu, rfl, -⟩ := hu
 obtain ⟨tv, Av, qv, cv, lv, rfl, -⟩ := hv
 have k3 : Bk wd (w.heap.size + 2) 24 #[.bool false, .slice none 0 0] := (hb.block _ (by simp)).trans (by have h := Bk.alloc_ ((w.alloc (.cells #[.bool s1, .slice A1 n1 c1] 24)).alloc (.cells #[.bool s2, .slice A2 n2 c2] 24)) 24 #[.bool false, .slice none 0 0]; rw [World.size_alloc, World.size_alloc] at h; exact h)
 have o3 := k3.lt
 have k4 : Bk ((wd.alloc (.cells #[.bool tu, .slice Au qu cu] 24)).alloc (.cells #[.bool tv, .slice Av qv cv] 24)) (w.heap.size + 1 + 1) 24 #[.bool false, .slice none 0 0] := (k3.alloc _).alloc _
 have e0 : ((wd.alloc (.cells #[.bool tu, .slice Au qu cu] 24)).alloc (.cells #[.bool tv, .slice Av qv cv] 24)).cell? ⟨w.heap.size + 1 + 1, 0, none⟩ = some (.bool false) := by simpa using k4.cell 0
 have e1 : ((wd.alloc (.cells #[.bool tu, .slice Au qu cu] 24)).alloc (.cells #[.bool tv, .slice Av qv cv] 24)).cell? ⟨w.heap.size + 1 + 1, 1, none⟩ = some (.slice none 0 0) := by simpa using k4.cell 1
 have f0 := k4.frozen 0
 have f1 := k4.frozen 1
 have hbe : Below w.heap.size w ((wd.alloc (.cells #[.bool tu, .slice Au qu cu] 24)).alloc (.cells #[.bool tv, .slice Av qv cv] 24)) := (hbel.alloc (by omega) _).alloc (by simp; omega) _
 have hout := (((HU.out.below (((Below.refl wd.heap.size wd).alloc (Nat.le_refl _) (.cells #[.bool tu, .slice Au qu cu] 24)).alloc (by simp) (.cells #[.bool tv, .slice Av qv cv] 24)) (Nat.le_refl _) (Nat.le_refl _))))
 have HBE := Lib.hid hbe
 have HOUT := Lib.hid hout
 have K4 := Lib.hid k4
 clear hbe hout k3 k4 hb hbel
 go_wp2
 refine bodyPost_ret (v := .agg #[.bool tu, .slice Au qu cu]) (by simp [results, Tryz.results152, go_sem, e0, e1]) rfl ⟨(HBE.out.setCell (by simp; omega) _).setCell (by simp; omega) _, _, rfl, (HOUT.out.past K4.out _ _).mono (by simp; omega)⟩
end Go.Proofs.YthlfhfkfjefidaaGreat
/- The walk of reduced. -/
namespace Go.Proofs.YthlfhfkfjefidaaGreat
open Go.RowKit
set_option maxRecDepth 100000 in
theorem reduced_any (n c m c2 : Nat) (A A2 : Option Addr) (a b : List Nat) (w : World) (ha : Lim w w.heap.size A n c a) (na : Norm a) (hb : Lim w w.heap.size A2 m c2 b) (nb : Norm b) (hpos : 0 < val b) (hn : n ≤ 536870912) :
 Calls Tryz.prog 108 #[.slice A n c, .slice A2 m c2] w (NatR (val a / val b) w) := by
 have HA := Lib.hid ha
 have HBB := Lib.hid hb
 have HP := Lib.hid hpos
 clear ha hb hpos
 go_enter Tryz.func108, Tryz.ntmps108
 go_wp2_with fail
 refine (isOne_any A2 m c2 b _ w HBB.out).mono ?_
 rintro e w1 ⟨rfl, rfl⟩
 by_cases h1 : b = [1]
 · have hd : decide (b = [1]) = true := by simpa using h1
   rw [hd]
   have hx : Hid (val a / val b = val a) := by
    show _ = _
    rw [h1]; simp [val]
   clear hd h1
   go_wp2_with fail
   refine (clone_any A n c a _ w HA.out (Nat.le_refl _) (by omega)).mono ?_
   rintro e w2 ⟨hb2, v, rfl, hv⟩
   obtain ⟨A', c', rfl, hl⟩ := hv.lim (Nat.le_refl _)
   clear hv
   go_wp2
   go_ret
   exact ⟨hb2, A', _, c', a, rfl, hl, na, hx.out.symm⟩
 · have hd : decide (b = [1]) = false := by simpa using h1
   rw [hd]
   clear hd h1
   go_wp2_with fail
   refine (divideLimbs_any n c m c2 A A2 a b w HA.out na HBB.out nb HP.out hn).mono ?_
   rintro e w2 ⟨hb2, vq, vr, rfl, ⟨Aq, nq, cq, lq, rfl, hlq, hnq, hvq⟩, ⟨Ar, nr, cr, lr, rfl, -, -, -⟩⟩
   have HQ := Lib.hid hlq
   have HV := Lib.hid hvq
   clear hlq hvq
   go_wp2
   go_ret
   exact ⟨hb2, Aq, nq, cq, lq, rfl, HQ.out, hnq, HV.out⟩
end Go.Proofs.YthlfhfkfjefidaaGreat
/- The walk of fraction. -/
namespace Go.Proofs.YthlfhfkfjefidaaGreat
open Go.RowKit
theorem Lim.other {w w' : World} {B n c : Nat} {A : Option Addr} {l : List Nat} (h : Lim w B A n c l) {g t : Nat} {cs : Array Value} (hb : Bk w g t cs) (hcs : ∀ (k : Nat) (z : Int), cs[k]? ≠ some (.int .u32 z)) (hw : ∀ a : Addr, a.block ≠ g → w'.cell? a = w.cell? a) :
 Lim w' B A n c l := by
 refine ⟨⟨h.sl.len, h.sl.cap, h.sl.max, fun hn => ?_⟩, h.bd⟩
 obtain ⟨b, o, x0, e, hbb, hx0, _, hc0⟩ := h.at_ (k := 0) hn
 obtain ⟨b', o', e', _, hc⟩ := h.sl.cells hn
 rw [e] at e'
 simp only [Option.some.injEq, Addr.mk.injEq, and_true] at e'
 obtain ⟨rfl, rfl⟩ := e'
 have hne : b ≠ g := by
  rintro rfl
  rw [Nat.add_zero, hb.cell] at hc0
  exact hcs _ _ hc0
 exact ⟨b, o, e, hbb, fun k u' hu => by rw [hw _ hne]; exact hc k u' hu⟩
def PairAt (w : World) (B : Nat) (v : Value) (p q : Int) : Prop :=
 ∃ s A n c t A' n' c', v = .agg #[.bool s, .slice A n c, .bool t, .slice A' n' c'] ∧ IntAt w B (.agg #[.bool s, .slice A n c]) p ∧ IntAt w B (.agg #[.bool t, .slice A' n' c']) q
theorem rat_cells {k : Nat} {z : Int} {a b : Bool} {A C : Option Addr} {n c m d : Nat} : (#[Value.bool a, .slice A n c, .bool b, .slice C m d])[k]? ≠ some (.int .u32 z) := by
 match k with
 | 0 => simp
 | 1 => simp
 | 2 => simp
 | 3 => simp
 | k + 4 => simp
theorem set4_other (w : World) (g : Nat) (x y z u : Value) (a : Addr) (h : a.block ≠ g) : ((((w.setCell ⟨g, 0, none⟩ x).setCell ⟨g, 1, none⟩ y).setCell ⟨g, 2, none⟩ z).setCell ⟨g, 3, none⟩ u).cell? a = w.cell? a := by
 rw [World.cell?_setCell_other _ _ _ _ (fun e => h (congrArg Addr.block e).symm), World.cell?_setCell_other _ _ _ _ (fun e => h (congrArg Addr.block e).symm), World.cell?_setCell_other _ _ _ _ (fun e => h (congrArg Addr.block e).symm), World.cell?_setCell_other _ _ _ _ (fun e => h (congrArg Addr.block e).symm)]
set_option maxRecDepth 100000 in
set_option maxHeartbeats 4000000 in
theorem fraction_any (s1 s2 : Bool) (A1 A2 : Option Addr) (n1 c1 n2 c2 : Nat) (l1 l2 : List Nat) (w : World) (h1 : Lim w w.heap.size A1 n1 c1 l1) (h2 : Lim w w.heap.size A2 n2 c2 l2) (N1 : Norm l1) (N2 : Norm l2) (b1 : n1 ≤ 536870912) (b2 : n2 ≤ 536870912) (hy : 0 < val l2) :
 Calls Tryz.prog 71 #[.agg #[.bool s1, .slice A1 n1 c1], .agg #[.bool s2, .slice A2 n2 c2]] w fun e w' => Below w.heap.size w w' ∧ ∃ v, e = .returned v ∧
  PairAt w' w'.heap.size v (sg (s1 != s2) (val l1 / Nat.gcd (val l1) (val l2))) ((val l2 / Nat.gcd (val l1) (val l2) : Nat) : Int) := by
 have H1 : Hid (∀ w', Below w.heap.size w w' → Lim w' w'.heap.size A1 n1 c1 l1) := fun w' hb => h1.below hb (Nat.le_refl _) hb.size
 have H2 : Hid (∀ w', Below w.heap.size w w' → Lim w' w'.heap.size A2 n2 c2 l2) := fun w' hb => h2.below hb (Nat.le_refl _) hb.size
 clear h1 h2
 go_enter Tryz.func71, Tryz.ntmps71
 go_wp2_with fail
 refine (commonLimbs_any n1 c1 n2 c2 A1 A2 l1 l2 _ (H1.out _ (by repeat (first | exact Below.refl _ _ | assumption | refine Below.drew ?_ | refine Below.drewN ?_ _ | refine Below.alloc ?_ (by simp <;> omega) _ | refine Below.setCell ?_ (by simp <;> omega) _))) N1 (H2.out _ (by repeat (first | exact Below.refl _ _ | assumption | refine Below.drew ?_ | refine Below.drewN ?_ _ | refine Below.alloc ?_ (by simp <;> omega) _ | refine Below.setCell ?_ (by simp <;> omega) _))) N2 b1 b2).mono ?_
 rintro e wg ⟨hbg, Ag, ng, cg, lg, rfl, hlg, hng, hvg⟩
 have hg0 : 0 < Nat.gcd (val l1) (val l2) := Nat.gcd_pos_of_pos_right _ hy
 have k1 : Bk wg w.heap.size 24 #[.bool s1, .slice A1 n1 c1] := (hbg.block _ (by first | (simp; done) | (simp; omega) | omega)).trans (((Bk.alloc_ w 24 #[.bool s1, .slice A1 n1 c1]).alloc _).alloc _)
 have k2 : Bk wg (w.heap.size + 1) 24 #[.bool s2, .slice A2 n2 c2] := (hbg.block _ (by first | (simp; done) | (simp; omega) | omega)).trans ((alloc2_bk w _ _ _).alloc _)
 have k3 : Bk wg (w.heap.size + 1 + 1) 41 #[.bool false, .slice none 0 0, .bool false, .slice none 0 0] := (hbg.block _ (by simp)).trans (by have h := Bk.alloc_ ((w.alloc (.cells #[.bool s1, .slice A1 n1 c1] 24)).alloc (.cells #[.bool s2, .slice A2 n2 c2] 24)) 41 #[.bool false, .slice none 0 0, .bool false, .slice none 0 0]; rw [World.size_alloc, World.size_alloc] at h; exact h)
 have hbel : Below w.heap.size w wg := (alloc3_below _ _ _ _).trans (hbg.mono (by simp; omega))
 have KEEP : Hid (∀ w', Below wg.heap.size wg w' → Bk w' (w.heap.size + 1 + 1) 41 #[.bool false, .slice none 0 0, .bool false, .slice none 0 0] ∧
  w'.cell? ⟨w.heap.size, 0, none⟩ = some (.bool s1) ∧ w'.cell? ⟨w.heap.size, 1, none⟩ = some (.slice A1 n1 c1) ∧ w'.cell? ⟨w.heap.size + 1, 0, none⟩ = some (.bool s2) ∧ w'.cell? ⟨w.heap.size + 1, 1, none⟩ = some (.slice A2 n2 c2) ∧
  w'.cell? ⟨w.heap.size + 1 + 1, 0, none⟩ = some (.bool false) ∧ w'.cell? ⟨w.heap.size + 1 + 1, 1, none⟩ = some (.slice none 0 0) ∧ w'.cell? ⟨w.heap.size + 1 + 1, 2, none⟩ = some (.bool false) ∧ w'.cell? ⟨w.heap.size + 1 + 1, 3, none⟩ = some (.slice none 0 0) ∧
  w'.frozen? ⟨w.heap.size + 1 + 1, 0, none⟩ = false ∧ w'.frozen? ⟨w.heap.size + 1 + 1, 1, none⟩ = false ∧ w'.frozen? ⟨w.heap.size + 1 + 1, 2, none⟩ = false ∧ w'.frozen? ⟨w.heap.size + 1 + 1, 3, none⟩ = false) := by
  intro w' hb
  have r1 := k1.below hb k1.lt
  have r2 := k2.below hb k2.lt
  have r3 := k3.below hb k3.lt
  exact ⟨r3, by simpa using r1.cell 0, by simpa using r1.cell 1, by simpa using r2.cell 0, by simpa using r2.cell 1, by simpa using r3.cell 0, by simpa using r3.cell 1, by simpa using r3.cell 2, by simpa using r3.cell 3, r3.frozen 0, r3.frozen 1, r3.frozen 2, r3.frozen 3⟩
 have HG := Lib.hid hlg
 have HVG := Lib.hid hvg
 have HG0 := Lib.hid hg0
 have HBEL := Lib.hid hbel
 have o3 := k3.lt
 have HR1 := Lib.hid (reduced_any n1 c1 ng cg A1 Ag l1 _ wg.drew (H1.out _ hbel).drew N1 hlg.drew hng (by rw [hvg]; exact hg0) b1)
 obtain ⟨-, e10, e11, e20, e21, -⟩ := KEEP.out wg (Below.refl _ _)
 have hcx : ∀ (W : World) (o j : Nat) (u : Value), (W.setCell ⟨w.heap.size + 1 + 1, o, none⟩ u).cell? ⟨w.heap.size, j, none⟩ = W.cell? ⟨w.heap.size, j, none⟩ := (fun W o j u => World.cell?_setCell_other W _ _ u (fun e => by have := congrArg Addr.block e; simp at this; omega))
 have hcy : ∀ (W : World) (o j : Nat) (u : Value), (W.setCell ⟨w.heap.size + 1 + 1, o, none⟩ u).cell? ⟨w.heap.size + 1, j, none⟩ = W.cell? ⟨w.heap.size + 1, j, none⟩ := (fun W o j u => World.cell?_setCell_other W _ _ u (fun e => by have := congrArg Addr.block e; simp at this))
 clear hlg hvg hg0 hbel k1 k2 k3 hbg
 go_upto_region 2 with fail
 go_region_held3 (fun w' => w'.cell? ⟨w.heap.size, 0, none⟩ = some (.bool s1) ∧ w'.cell? ⟨w.heap.size, 1, none⟩ = some (.slice A1 n1 c1) ∧ w'.cell? ⟨w.heap.size + 1, 0, none⟩ = some (.bool s2) ∧ w'.cell? ⟨w.heap.size + 1, 1, none⟩ = some (.slice A2 n2 c2)) (go_keep)
  (first
    | (go_at_call_of 108 (Value.slice A1 n1 c1); refine HR1.out.mono ?_; rintro e wa ⟨hba, Aa, qa, ca, la, rfl, hla, hna, hva⟩
       have hya : Below wg.heap.size wg wa := ((Below.refl _ _).drew).trans hba
       obtain ⟨-, qa1, qa2, qa3, qa4, -⟩ := KEEP.out wa hya
       have HYA := Lib.hid hya; have HLA := Lib.hid hla; have HVA := Lib.hid hva; clear hya hla hva hba)
    | (go_at_call_of 108 (Value.slice A2 n2 c2); refine HR2.out.mono ?_; rintro e wd ⟨hbd, Ad, qd, cd, ld, rfl, hld, hnd, hvd⟩
       have hyd : Below wg.heap.size wg wd := HYB.out.trans (hbd.mono HYB.out.size)
       obtain ⟨-, qd1, qd2, qd3, qd4, -⟩ := KEEP.out wd hyd
       have HYD := Lib.hid hyd; have HBD := Lib.hid hbd; have HLD := Lib.hid hld; have HVD := Lib.hid hvd; clear hyd hld hvd hbd)
    | (go_at_call 57; have hgo := HYD; clear hgo; refine (signed_any _ _ _ _ _).mono ?_; rintro e wf ⟨rfl, hbf⟩
       have hyf : Below wg.heap.size wg wf := HYD.out.trans (hbf.mono HYD.out.size)
       obtain ⟨rf, qf1, qf2, qf3, qf4, qf5, qf6, qf7, qf8, ff1, ff2, ff3, ff4⟩ := KEEP.out wf hyf
       have HYF := Lib.hid hyf; have HBF := Lib.hid hbf; have RF := Lib.hid rf; clear hyf hbf rf)
    | (go_at_call 57; refine (signed_any _ _ _ _ _).mono ?_; rintro e wb ⟨rfl, hbb⟩
       have hyb : Below wg.heap.size wg wb := HYA.out.trans (hbb.mono HYA.out.size)
       obtain ⟨-, qb1, qb2, qb3, qb4, -⟩ := KEEP.out wb hyb
       have HYB := Lib.hid hyb; have HBB := Lib.hid hbb
       have HR2 := Lib.hid (reduced_any n2 c2 ng cg A2 Ag l2 _ wb (H2.out _ (HBEL.out.trans (hyb.mono HBEL.out.size))) N2 (HG.out.below hyb (Nat.le_refl _) hyb.size) hng (by rw [HVG.out]; exact HG0.out) b2)
       clear hyb hbb))
 go_wp2
 have hx : ∀ (n : Nat), (!s1 == s2 && decide (0 < n)) = ((s1 != s2) && decide (0 < n)) := fun n => by cases s1 <;> cases s2 <;> rfl
 have hla := (((HLA.out.below HBB.out (Nat.le_refl _) HBB.out.size).below HBD.out (Nat.le_refl _) HBD.out.size).below HBF.out (Nat.le_refl _) HBF.out.size).other RF.out (fun _ _ => rat_cells) (set4_other wf (w.heap.size + 1 + 1) (.bool (!s1 == s2 && decide (0 < qa))) (.slice Aa qa ca) (.bool false) (.slice Ad qd cd))
 have hld := (HLD.out.below HBF.out (Nat.le_refl _) HBF.out.size).other RF.out (fun _ _ => rat_cells) (set4_other wf (w.heap.size + 1 + 1) (.bool (!s1 == s2 && decide (0 < qa))) (.slice Aa qa ca) (.bool false) (.slice Ad qd cd))
 have hbl : Below w.heap.size w wf := HBEL.out.trans (HYF.out.mono HBEL.out.size)
 refine bodyPost_ret (v := .agg #[.bool (!s1 == s2 && decide (0 < qa)), .slice Aa qa ca, .bool false, .slice Ad qd cd]) (by simp [results, Tryz.results71, go_sem, qf5, qf6, qf7, qf8]) rfl ⟨(((hbl.setCell (by simp; omega) _).setCell (by simp; omega) _).setCell (by simp; omega) _).setCell (by simp; omega) _, _, rfl, _, _, _, _, _, _, _, _, rfl, ?_, ?_⟩
 · rw [hx]
   exact mkInt ((hla.mono (by simp))) hna (by rw [HVA.out, HVG.out])
 · exact mkInt (t := false) ((hld.mono (by simp))) hnd (by rw [HVD.out, HVG.out]; rfl)
end Go.Proofs.YthlfhfkfjefidaaGreat
