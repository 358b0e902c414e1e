/- Both arguments read in their normal form (x, y = read(x), read(y)); the walk of CmpInt. -/
import Derived.Test.YtfnibkodccfocaaGreatCommon
import Derived.Deep.RegionWith
import Derived.Deep.DeepCutAuto
import Derived.Deep.CutBlock
namespace Go.Proofs.YtfnibkodccfocaaGreat
open Go.RowKit

/-- Behind 'x, y = read(x), read(y)': blocks g1, g2 hold the normal forms; of what was there no other block has been written. -/
def ReadTwo (w0 : World) (g1 g2 : Nat) (s1 s2 : Bool) (A1 A2 : Option Addr) (n1 c1 n2 c2 : Nat) (l1 l2 : List Nat) (wx : World) : Prop :=
  ∃ m1 m2, m1 ≤ n1 ∧ val (l1.take m1) = val l1 ∧ Norm (l1.take m1) ∧ m2 ≤ n2 ∧ val (l2.take m2) = val l2 ∧ Norm (l2.take m2) ∧
    Bk wx g1 24 #[.bool (s1 && decide (0 < m1)), .slice A1 m1 c1] ∧ Bk wx g2 24 #[.bool (s2 && decide (0 < m2)), .slice A2 m2 c2] ∧ Fr (fun k => k = g1 ∨ k = g2) w0 wx

theorem store_two {w W : World} {g1 g2 t : Nat} {a b c d x y z u : Value} (h1 : Bk W g1 t #[a, b]) (h2 : Bk W g2 t #[c, d]) (hne : g1 ≠ g2) (hf : Fr (fun k => k = g1 ∨ k = g2) w W) :
    Bk ((((W.setCell ⟨g1, 0, none⟩ x).setCell ⟨g1, 1, none⟩ y).setCell ⟨g2, 0, none⟩ z).setCell ⟨g2, 1, none⟩ u) g1 t #[x, y] ∧
    Bk ((((W.setCell ⟨g1, 0, none⟩ x).setCell ⟨g1, 1, none⟩ y).setCell ⟨g2, 0, none⟩ z).setCell ⟨g2, 1, none⟩ u) g2 t #[z, u] ∧
    Fr (fun k => k = g1 ∨ k = g2) w ((((W.setCell ⟨g1, 0, none⟩ x).setCell ⟨g1, 1, none⟩ y).setCell ⟨g2, 0, none⟩ z).setCell ⟨g2, 1, none⟩ u) := by
  refine ⟨?_, ?_, ?_⟩
  · have := (((h1.set_ 0 x).set_ 1 y).other (p := ⟨g2, 0, none⟩) hne z).other (p := ⟨g2, 1, none⟩) hne u
    simpa using this
  · have := (((h2.other (p := ⟨g1, 0, none⟩) (Ne.symm hne) x).other (p := ⟨g1, 1, none⟩) (Ne.symm hne) y).set_ 0 z).set_ 1 u
    simpa using this
  · exact (((hf.setCell (fun _ => .inl rfl) 0 x).setCell (fun _ => .inl rfl) 1 y).setCell (fun _ => .inr rfl) 0 z).setCell (fun _ => .inr rfl) 1 u

theorem alloc2_bk (w : World) (o : Obj) (t : TypeId) (cs : Array Value) : Bk ((w.alloc o).alloc (.cells cs t)) (w.heap.size + 1) t cs := by
  have h := Bk.alloc_ (w.alloc o) t cs
  rwa [World.size_alloc] at h

theorem alloc2_below (w : World) (o p : Obj) : Below w.heap.size w ((w.alloc o).alloc p) := ((Below.refl _ _).alloc (Nat.le_refl _) _).alloc (by simp) _
theorem alloc3_below (w : World) (o p q : Obj) : Below w.heap.size w (((w.alloc o).alloc p).alloc q) := (alloc2_below w o p).alloc (by simp; omega) _

/-- A sign and a size in normal form. -/
theorem sg_read {s : Bool} {l : List Nat} {m : Nat} (hv : val (l.take m) = val l) (hn : Norm (l.take m)) (hm : m ≤ l.length) : sg (s && decide (0 < m)) (val (l.take m)) = sg s (val l) ∧ ((s && decide (0 < m)) = true → 0 < val (l.take m)) := by
  rcases Nat.eq_zero_or_pos m with h | h
  · subst h
    rw [List.take_zero] at hv
    constructor
    · rw [← hv]; cases s <;> simp [sg, val]
    · intro h; simp at h
  · have hd : decide (0 < m) = true := by simpa using h
    rw [hd, Bool.and_true, hv]
    refine ⟨rfl, fun _ => ?_⟩
    rw [← hv]
    exact norm_val_pos hn (by intro e; have := congrArg List.length e; rw [List.length_take, List.length_nil] at this; omega)

theorem cmp_sg_nn (x y : Nat) : cmpI (sg false x) (sg false y) = cmpN x y := by rw [sg_false, sg_false, cmpI_cast]
theorem cmp_sg_tt (x y : Nat) : cmpI (sg true x) (sg true y) = cmpN y x := by
  rw [sg_true, sg_true]
  rcases Nat.lt_trichotomy x y with h | h | h
  · rw [cmpI_gt (by omega), cmpN_gt h]
  · subst h; rw [cmpI_eq rfl, cmpN_self]
  · rw [cmpI_lt (by omega), cmpN_lt h]
theorem cmp_sg_tn {x y : Nat} (h : 0 < x) : cmpI (sg true x) (sg false y) = -1 := by rw [sg_true, sg_false, cmpI_lt (by omega)]
theorem cmp_sg_nt {x y : Nat} (h : 0 < y) : cmpI (sg false x) (sg true y) = 1 := by rw [sg_true, sg_false, cmpI_gt (by omega)]

set_option maxRecDepth 100000 in
set_option maxHeartbeats 4000000 in
theorem cmpInt_any (s1 s2 : Bool) (A1 A2 : Option Addr) (n1 c1 n2 c2 : Nat) (l1 l2 : List Nat) (w : World) (h1 : Lim w w.heap.size A1 n1 c1 l1) (h2 : Lim w w.heap.size A2 n2 c2 l2) :
    Calls Tryz.prog 22 #[.agg #[.bool s1, .slice A1 n1 c1], .agg #[.bool s2, .slice A2 n2 c2]] w fun e w' => e = .returned (.int .i64 (cmpI (sg s1 (val l1)) (sg s2 (val l2)))) ∧ Below w.heap.size w w' := by
  have H1 : Hid (∀ w', Below w.heap.size w w' → Lim w' w'.heap.size A1 n1 c1 l1) := fun w' hb => h1.below hb (Nat.le_refl _) hb.size
  have H2 : Hid (∀ w', Below w.heap.size w w' → Lim w' w'.heap.size A2 n2 c2 l2) := fun w' hb => h2.below hb (Nat.le_refl _) hb.size
  have HN1 := Lib.hid h1.len
  have HN2 := Lib.hid h2.len
  clear h1 h2
  go_enter Tryz.func22, Tryz.ntmps22
  go_upto_region 1 with fail
  go_cut [] (fun wx => ReadTwo ((w.alloc (.cells #[.bool s1, .slice A1 n1 c1] 24)).alloc (.cells #[.bool s2, .slice A2 n2 c2] 24)) w.heap.size (w.heap.size + 1) s1 s2 A1 A2 n1 c1 n2 c2 l1 l2 wx)
  case first =>
    go_region_with (first
      | (go_at_call_of 52 (Value.agg #[.bool s1, .slice A1 n1 c1]); refine (read_any s1 A1 n1 c1 l1 _ (H1.out _ (by repeat (first | exact Below.refl _ _ | assumption | refine Below.drew ?_ | refine Below.drewN ?_ _ | refine Below.alloc ?_ (by simp <;> omega) _ | refine Below.setCell ?_ (by simp <;> omega) _)))).mono ?_; rintro e wa ⟨hba, sa, ma, rfl, hma, hva, hna, rfl⟩; obtain ⟨hca, hfa⟩ := bcell hba; have hza := hba.size; (try simp at hza); have hBa : Below w.heap.size w wa := Below.trans (by repeat (first | exact Below.refl _ _ | assumption | refine Below.drew ?_ | refine Below.drewN ?_ _ | refine Below.alloc ?_ (by simp <;> omega) _ | refine Below.setCell ?_ (by simp <;> omega) _)) (hba.mono (by first | (simp; omega) | omega)); have oaa : w.heap.size < wa.heap.size := (by omega); have oba : w.heap.size + 1 < wa.heap.size := (by omega))
      | (go_at_call_of 52 (Value.agg #[.bool s2, .slice A2 n2 c2]); refine (read_any s2 A2 n2 c2 l2 _ (H2.out _ (by repeat (first | exact Below.refl _ _ | assumption | refine Below.drew ?_ | refine Below.drewN ?_ _ | refine Below.alloc ?_ (by simp <;> omega) _ | refine Below.setCell ?_ (by simp <;> omega) _)))).mono ?_; rintro e wb ⟨hbb, sb, mb, rfl, hmb, hvb, hnb, rfl⟩; obtain ⟨hcb, hfb⟩ := bcell hbb; have hzb := hbb.size; (try simp at hzb); have hBb : Below w.heap.size w wb := Below.trans (by repeat (first | exact Below.refl _ _ | assumption | refine Below.drew ?_ | refine Below.drewN ?_ _ | refine Below.alloc ?_ (by simp <;> omega) _ | refine Below.setCell ?_ (by simp <;> omega) _)) (hbb.mono (by first | (simp; omega) | omega)); have oab : w.heap.size < wb.heap.size := (by omega); have obb : w.heap.size + 1 < wb.heap.size := (by omega)))
    all_goals
      have b1 : Bk wb w.heap.size 24 #[.bool s1, .slice A1 n1 c1] := (hbb.block _ oaa).trans ((hba.block _ (by first | (simp; done) | (simp; omega) | omega)).trans ((Bk.alloc_ w 24 #[.bool s1, .slice A1 n1 c1]).alloc _))
      have b2 : Bk wb (w.heap.size + 1) 24 #[.bool s2, .slice A2 n2 c2] := (hbb.block _ oba).trans ((hba.block _ (by first | (simp; done) | (simp; omega) | omega)).trans (alloc2_bk w _ _ _))
      have hst := store_two (x := .bool (s1 && decide (0 < ma))) (y := .slice A1 ma c1) (z := .bool (s2 && decide (0 < mb))) (u := .slice A2 mb c2) b1 b2 (by omega)
        (Fr.of_below (S := fun k => k = w.heap.size ∨ k = w.heap.size + 1) (w := ((w.alloc (.cells #[.bool s1, .slice A1 n1 c1] 24)).alloc (.cells #[.bool s2, .slice A2 n2 c2] 24))) ((((Below.refl _ _).drew).trans hba).trans (hbb.mono (by first | (simp; done) | (simp; omega) | omega))))
      have HST := Lib.hid hst
      clear b1 b2 hst hca hcb hfa hfb hza hzb
      go_wp2_with fail
      go_meet
      exact ⟨ma, mb, hma, hva, hna, hmb, hvb, hnb, HST.out⟩
  case rest =>
    obtain ⟨m1, m2, hm1, hv1, hn1, hm2, hv2, hn2, k1, k2, hf⟩ := hcut
    obtain ⟨z1, p1⟩ := sg_read (s := s1) hv1 hn1 (by rw [HN1.out]; exact hm1)
    obtain ⟨z2, p2⟩ := sg_read (s := s2) hv2 hn2 (by rw [HN2.out]; exact hm2)
    generalize (s1 && decide (0 < m1)) = t1 at z1 p1 k1
    generalize (s2 && decide (0 < m2)) = t2 at z2 p2 k2
    have hbw : Below w.heap.size w wc := Below.trans (alloc2_below _ _ _) (hf.below (by first | (simp; done) | (simp; omega) | omega) (fun k hk h => by rcases h with h | h <;> omega))
    have L1 := (H1.out wc hbw).take hm1
    have L2 := (H2.out wc hbw).take hm2
    have e10 : wc.cell? ⟨w.heap.size, 0, none⟩ = some (.bool t1) := by simpa using k1.cell 0
    have e11 : wc.cell? ⟨w.heap.size, 1, none⟩ = some (.slice A1 m1 c1) := by simpa using k1.cell 1
    have e20 : wc.cell? ⟨w.heap.size + 1, 0, none⟩ = some (.bool t2) := by simpa using k2.cell 0
    have e21 : wc.cell? ⟨w.heap.size + 1, 1, none⟩ = some (.slice A2 m2 c2) := by simpa using k2.cell 1
    have Z1 := Lib.hid z1
    have Z2 := Lib.hid z2
    have HB := Lib.hid hbw
    have HF := Lib.hid hf
    have KK1 := Lib.hid k1
    have KK2 := Lib.hid k2
    clear z1 z2 hbw hf k1 k2 hv1 hv2
    cases t1 <;> cases t2
    · have hcp := compareLimbs_any A1 A2 m1 c1 m2 c2 _ _ _ _ wc L1 L2 hn1 hn2
      have HCP := Lib.hid hcp
      clear hcp
      go_wp2_with (go_at_call 60; refine HCP.out.mono ?_; rintro e w' ⟨rfl, k, rfl⟩)
      go_ret
      exact ⟨by rw [← Z1.out, ← Z2.out, cmp_sg_nn]; rfl, Below.drewN HB.out k⟩
    · have hp := p2 rfl
      go_wp2
      go_ret
      exact ⟨by rw [← Z1.out, ← Z2.out, cmp_sg_nt hp]; rfl, HB.out⟩
    · have hp := p1 rfl
      go_wp2
      go_ret
      exact ⟨by rw [← Z1.out, ← Z2.out, cmp_sg_tn hp]; rfl, HB.out⟩
    · have hcp := compareLimbs_any A2 A1 m2 c2 m1 c1 _ _ _ _ wc L2 L1 hn2 hn1
      have HCP := Lib.hid hcp
      clear hcp
      go_wp2_with (go_at_call 60; refine HCP.out.mono ?_; rintro e w' ⟨rfl, k, rfl⟩)
      go_ret
      exact ⟨by rw [← Z1.out, ← Z2.out, cmp_sg_tt]; rfl, Below.drewN HB.out k⟩

end Go.Proofs.YtfnibkodccfocaaGreat
