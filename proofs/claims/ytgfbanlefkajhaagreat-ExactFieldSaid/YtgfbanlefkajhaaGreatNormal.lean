/- The walks of Whole and Normal. -/
import Derived.Test.YtgfbanlefkajhaaGreatRat
namespace Go.Proofs.YtgfbanlefkajhaaGreat
open Go.RowKit

/-- The fraction that the terms a and b say. -/
def frac (a b : Int) : Rat := if b = 0 then Rat.divInt a 1 else Rat.divInt a b
theorem Terms.frac {a b p q : Int} (h : Terms a b p q) : Rat.divInt p q = frac a b ∧ 0 < q := by
  rcases h with ⟨rfl, rfl, rfl⟩ | ⟨hb, rfl, rfl⟩ | ⟨hb, rfl, rfl⟩
  · exact ⟨rfl, by omega⟩
  · refine ⟨?_, by omega⟩
    rw [Go.Proofs.YtgfbanlefkajhaaGreat.frac, if_neg (by omega), Rat.neg_divInt_neg]
  · exact ⟨by rw [Go.Proofs.YtgfbanlefkajhaaGreat.frac, if_neg (by omega)], hb⟩
theorem Terms.bounds {a b p q : Int} (h : Terms a b p q) {k : Nat} (ha : a.natAbs < W k) (hb : b.natAbs < W k) (hk : 0 < k) : p.natAbs < W k ∧ q.natAbs < W k := by
  have h1 : W 1 ≤ W k := W_mono hk
  have h2 : W 1 = 4294967296 := by decide
  rcases h with ⟨rfl, rfl, rfl⟩ | ⟨h0, rfl, rfl⟩ | ⟨h0, rfl, rfl⟩ <;> refine ⟨by omega, by omega⟩

theorem IntAt.other {w w' : World} {B : Nat} {v : Value} {z : Int} (h : IntAt w B v z) {g t : Nat} {cs : Array Value} (hb : Bk w g t cs) (hcs : ∀ (k : Nat) (z : Int), cs[k]? ≠ some (.int .u32 z)) (hw : ∀ a : Addr, a.block ≠ g → w'.cell? a = w.cell? a) : IntAt w' B v z := by
  obtain ⟨s, A, n, c, l, e, hl, hn, hz, hs⟩ := h
  exact ⟨s, A, n, c, l, e, hl.other hb hcs hw, hn, hz, hs⟩
theorem sg_natAbs (s : Bool) (n : Nat) : (sg s n).natAbs = n := by cases s <;> simp [sg]
theorem sg_below {s : Bool} {l : List Nat} {n k : Nat} (hl : Bd l) (hn : l.length = n) (hk : n ≤ k) : (sg s (val l)).natAbs < W k := by
  rw [sg_natAbs]
  exact Nat.lt_of_lt_of_le (by have := val_lt hl; rwa [hn] at this) (W_mono hk)

set_option maxRecDepth 100000 in
set_option maxHeartbeats 4000000 in
theorem normal_any (s1 s2 : Bool) (A1 A2 : Option Addr) (n1 c1 n2 c2 : Nat) (l1 l2 : List Nat) (w : World) (h1 : Lim w w.heap.size A1 n1 c1 l1) (h2 : Lim w w.heap.size A2 n2 c2 l2) (b1 : n1 ≤ 536870912) (b2 : n2 ≤ 536870912) :
    Calls Tryz.prog 28 #[.agg #[.bool s1, .slice A1 n1 c1, .bool s2, .slice A2 n2 c2]] w (RatR (frac (sg s1 (val l1)) (sg s2 (val l2))) w) := by
  have H1 : Hid (∀ w', Below w.heap.size w w' → Lim w' w'.heap.size A1 n1 c1 l1) := fun w' hb => h1.below hb (Nat.le_refl _) hb.size
  have H2 : Hid (∀ w', Below w.heap.size w w' → Lim w' w'.heap.size A2 n2 c2 l2) := fun w' hb => h2.below hb (Nat.le_refl _) hb.size
  have B1 := Lib.hid (sg_below (s := s1) h1.bd h1.len b1)
  have B2 := Lib.hid (sg_below (s := s2) h2.bd h2.len b2)
  clear h1 h2
  go_enter Tryz.func28, Tryz.ntmps28
  go_wp2_with fail
  refine (terms_any s1 s2 A1 A2 n1 c1 n2 c2 l1 l2 _ (H1.out _ (by repeat (first | exact Below.refl _ _ | assumption | refine Below.drew ?_ | refine Below.drewN ?_ _ | refine Below.alloc ?_ (by simp <;> omega) _ | refine Below.setCell ?_ (by simp <;> omega) _))) (H2.out _ (by repeat (first | exact Below.refl _ _ | assumption | refine Below.drew ?_ | refine Below.drewN ?_ _ | refine Below.alloc ?_ (by simp <;> omega) _ | refine Below.setCell ?_ (by simp <;> omega) _)))).mono ?_
  rintro e wt ⟨hbt, u, v, p, q, rfl, hu, hv, ht⟩
  have hbel : Below w.heap.size w wt := (alloc2_below _ _ _).trans (hbt.mono (by simp; omega))
  have k2 : Bk wt (w.heap.size + 1) 41 #[.bool false, .slice none 0 0, .bool false, .slice none 0 0] := (hbt.block _ (by first | (simp; done) | (simp; omega) | omega)).trans (alloc2_bk w _ _ _)
  obtain ⟨hf, hq0⟩ := ht.frac
  obtain ⟨hp, hq⟩ := ht.bounds B1.out B2.out (by omega)
  have HF := Lib.hid hf
  have HP := Lib.hid (fraction_num u v p q wt hu hv hp hq hq0)
  have HBEL := Lib.hid hbel
  have K2 := Lib.hid k2
  clear hbt hu hv ht hf hp hq hq0 hbel k2
  go_wp2_with fail
  refine HP.out.mono ?_
  rintro e wf ⟨hbf, r, rfl, hr⟩
  have hbl := HBEL.out.trans (hbf.mono HBEL.out.size)
  have k3 := K2.out.below hbf K2.out.lt
  obtain ⟨s, A, n, c, t, A', n', c', rfl, hr1, hr2⟩ := hr
  have e0 : wf.cell? ⟨w.heap.size + 1, 0, none⟩ = some (.bool false) := by simpa using k3.cell 0
  have e1 : wf.cell? ⟨w.heap.size + 1, 1, none⟩ = some (.slice none 0 0) := by simpa using k3.cell 1
  have e2 : wf.cell? ⟨w.heap.size + 1, 2, none⟩ = some (.bool false) := by simpa using k3.cell 2
  have e3 : wf.cell? ⟨w.heap.size + 1, 3, none⟩ = some (.slice none 0 0) := by simpa using k3.cell 3
  have f0 := k3.frozen 0
  have f1 := k3.frozen 1
  have f2 := k3.frozen 2
  have f3 := k3.frozen 3
  have R1 := Lib.hid hr1
  have R2 := Lib.hid hr2
  have HBL := Lib.hid hbl
  have K3 := Lib.hid k3
  clear hr1 hr2 hbl k3 hbf
  go_wp2
  have hs : Hid (∀ a : Addr, a.block ≠ w.heap.size + 1 → ((((wf.setCell ⟨w.heap.size + 1, 0, none⟩ (.bool s)).setCell ⟨w.heap.size + 1, 1, none⟩ (.slice A n c)).setCell ⟨w.heap.size + 1, 2, none⟩ (.bool t)).setCell ⟨w.heap.size + 1, 3, none⟩ (.slice A' n' c')).cell? a = wf.cell? a) := set4_other _ _ _ _ _ _
  refine bodyPost_ret (v := .agg #[.bool s, .slice A n c, .bool t, .slice A' n' c']) (by simp [results, Tryz.results28, go_sem, e0, e1, e2, e3]) rfl ⟨(((HBL.out.setCell (by first | (simp; done) | (simp; omega) | omega) _).setCell (by first | (simp; done) | (simp; omega) | omega) _).setCell (by first | (simp; done) | (simp; omega) | omega) _).setCell (by first | (simp; done) | (simp; omega) | omega) _, _, rfl, _, _, _, _, _, _, _, _, rfl, ?_, ?_⟩
  · rw [← HF.out]
    exact (R1.out.other K3.out (fun _ _ => rat_cells) hs.out).mono (by simp)
  · rw [← HF.out]
    exact (R2.out.other K3.out (fun _ _ => rat_cells) hs.out).mono (by simp)

end Go.Proofs.YtgfbanlefkajhaaGreat
