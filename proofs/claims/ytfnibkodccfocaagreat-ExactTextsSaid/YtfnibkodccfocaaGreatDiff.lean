/- The walk of Diff. -/
import Derived.Test.YtfnibkodccfocaaGreatSum
namespace Go.Proofs.YtfnibkodccfocaaGreat
open Go.RowKit

theorem sg_not (s : Bool) (x : Nat) : sg (!s) x = - sg s x := by cases s <;> simp [sg]

set_option maxRecDepth 100000 in
set_option maxHeartbeats 4000000 in
theorem diff_any (s1 s2 : Bool) (A1 A2 : Option Addr) (n1 c1 n2 c2 : Nat) (l1 l2 : List Nat) (w : World) (h1 : Lim w w.heap.size A1 n1 c1 l1) (h2 : Lim w w.heap.size A2 n2 c2 l2) (b1 : n1 ≤ 536870912) (b2 : n2 ≤ 536870912) :
    Calls Tryz.prog 16 #[.agg #[.bool s1, .slice A1 n1 c1], .agg #[.bool s2, .slice A2 n2 c2]] w (IntR (sg s1 (val l1) - sg s2 (val l2)) w) := by
  have H1 : Hid (∀ w', Below w.heap.size w w' → Lim w' w'.heap.size A1 n1 c1 l1) := fun w' hb => h1.below hb (Nat.le_refl _) hb.size
  have H2 : Hid (∀ w', Below w.heap.size w w' → Lim w' w'.heap.size A2 n2 c2 l2) := fun w' hb => h2.below hb (Nat.le_refl _) hb.size
  clear h1 h2
  go_enter Tryz.func16, Tryz.ntmps16
  go_wp2_with fail
  go_region_held3 (fun w' => w'.cell? ⟨w.heap.size, 0, none⟩ = some (.bool s1) ∧ w'.cell? ⟨w.heap.size, 1, none⟩ = some (.slice A1 n1 c1) ∧ w'.cell? ⟨w.heap.size + 1, 0, none⟩ = some (.bool s2) ∧ w'.cell? ⟨w.heap.size + 1, 1, none⟩ = some (.slice A2 n2 c2)) (go_keep)
    (first
      | (go_at_call 63; refine (opposite_any s2 A2 n2 c2 _).mono ?_; rintro e wa ⟨rfl, hba⟩; obtain ⟨hca, hfa⟩ := bcell hba; have hza : w.heap.size + 1 + 1 + 1 ≤ wa.heap.size := (by have := hba.size; simp at this; omega); have hBa : Below w.heap.size w wa := Below.trans (by repeat (first | exact Below.refl _ _ | assumption | refine Below.drew ?_ | refine Below.drewN ?_ _ | refine Below.alloc ?_ (by simp <;> omega) _ | refine Below.setCell ?_ (by simp <;> omega) _)) (hba.mono (by first | (simp; done) | (simp; omega) | omega)); have oa1 : w.heap.size < wa.heap.size := (by omega); have oa2 : w.heap.size + 1 < wa.heap.size := (by omega); have oa3 : w.heap.size + 1 + 1 < wa.heap.size := (by omega); have q1 : wa.cell? ⟨w.heap.size, 0, none⟩ = some (.bool s1) := (hca _ 0 (by first | (simp; done) | (simp; omega) | omega)).trans (by go_simp); have q2 : wa.cell? ⟨w.heap.size, 1, none⟩ = some (.slice A1 n1 c1) := (hca _ 1 (by first | (simp; done) | (simp; omega) | omega)).trans (by go_simp); have q3 : wa.cell? ⟨w.heap.size + 1, 0, none⟩ = some (.bool s2) := (hca _ 0 (by first | (simp; done) | (simp; omega) | omega)).trans (by go_simp); have q4 : wa.cell? ⟨w.heap.size + 1, 1, none⟩ = some (.slice A2 n2 c2) := (hca _ 1 (by first | (simp; done) | (simp; omega) | omega)).trans (by go_simp); have hk3a : Bk wa (w.heap.size + 1 + 1) 24 #[.bool false, .slice none 0 0] := (hba.block _ (by first | (simp; done) | (simp; omega) | omega)).trans (by have h := Bk.alloc_ ((w.alloc (.cells #[.bool s1, .slice A1 n1 c1] 24)).alloc (.cells #[.bool s2, .slice A2 n2 c2] 24)) 24 #[.bool false, .slice none 0 0]; rw [World.size_alloc, World.size_alloc] at h; exact h); have HK3A := Lib.hid hk3a; clear hk3a)
      | (go_at_call 14; refine (sum_any s1 (!s2) A1 A2 n1 c1 n2 c2 l1 l2 wa (H1.out _ hBa) (H2.out _ hBa) b1 b2).mono ?_; rintro e wb ⟨hbb, v, rfl, s, A, n, c, l, rfl, hl, hn, hz, hs⟩; obtain ⟨hcb, hfb⟩ := bcell hbb; have p1 := (hcb _ 0 oa1).trans q1; have p2 := (hcb _ 1 oa1).trans q2; have p3 := (hcb _ 0 oa2).trans q3; have p4 := (hcb _ 1 oa2).trans q4; have hk3 : Bk wb (w.heap.size + 1 + 1) 24 #[.bool false, .slice none 0 0] := (hbb.block _ oa3).trans HK3A.out; have p5 : wb.cell? ⟨w.heap.size + 1 + 1, 0, none⟩ = some (.bool false) := (by simpa using hk3.cell 0); have p6 : wb.cell? ⟨w.heap.size + 1 + 1, 1, none⟩ = some (.slice none 0 0) := (by simpa using hk3.cell 1); have p7 := hk3.frozen 0; have p8 := hk3.frozen 1; have HK3 := Lib.hid hk3; have HL := Lib.hid hl; have HZ := Lib.hid hz; clear hk3 hl hz; have hcx : ∀ (W : World) (o j : Nat) (u : Value), (W.setCell ⟨w.heap.size + 1 + 1, o, none⟩ u).cell? ⟨w.heap.size, j, none⟩ = W.cell? ⟨w.heap.size, j, none⟩ := (fun W o j u => World.cell?_setCell_other W _ _ u (fun e => by have := congrArg Addr.block e; simp at this; omega)); have hcy : ∀ (W : World) (o j : Nat) (u : Value), (W.setCell ⟨w.heap.size + 1 + 1, o, none⟩ u).cell? ⟨w.heap.size + 1, j, none⟩ = W.cell? ⟨w.heap.size + 1, j, none⟩ := (fun W o j u => World.cell?_setCell_other W _ _ u (fun e => by have := congrArg Addr.block e; simp at this))))
  go_wp2
  have hbel : Below w.heap.size w wb := hBa.trans (hbb.mono (by omega))
  refine bodyPost_ret (v := .agg #[.bool s, .slice A n c]) (by simp [results, Tryz.results16, go_sem, p5, p6]) rfl ⟨(hbel.setCell (by simp; omega) _).setCell (by simp; omega) _, _, rfl, s, A, n, c, l, rfl, (HL.out.past HK3.out _ _).mono (by simp), hn, ?_, hs⟩
  rw [← HZ.out, sg_not]
  omega

end Go.Proofs.YtfnibkodccfocaaGreat
