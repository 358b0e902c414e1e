/- The walk of Whole. -/
import Derived.Test.YtgfbanlefkajhaaGreatNormal
namespace Go.Proofs.YtgfbanlefkajhaaGreat
open Go.RowKit

theorem intR_num {z : Int} {w w' : World} {e : Ending} (h : IntR z w e w') : Below w.heap.size w w' ∧ ∃ v, e = .returned v ∧ NumAt w' w'.heap.size v z := by
  obtain ⟨hb, v, he, hv⟩ := h
  exact ⟨hb, v, he, hv.num⟩

set_option maxRecDepth 100000 in
set_option maxHeartbeats 4000000 in
theorem whole_any (m : Int) (w : World) (h1 : -9223372036854775808 ≤ m) (h2 : m ≤ 9223372036854775807) :
    Calls Tryz.prog 29 #[.int .i64 m] w (RatR (m : Rat) w) := by
  go_enter Tryz.func29, Tryz.ntmps29
  go_wp2_with fail
  refine (of_any m _ h1 h2).mono ?_
  intro e wa hr
  obtain ⟨hba, u, rfl, hu⟩ := intR_num hr
  clear hr
  go_wp2_with fail
  refine (of_any 1 _ (by omega) (by omega)).mono ?_
  intro e wb hr
  obtain ⟨hbb, v, rfl, hv⟩ := intR_num hr
  clear hr
  have hba2 : Below w.heap.size w wa := ((Below.refl _ _).alloc (Nat.le_refl _) _).trans (hba.mono (by simp))
  have hbel : Below w.heap.size w wb := hba2.trans (hbb.mono hba2.size)
  have k2 : Bk wb w.heap.size 41 #[.bool false, .slice none 0 0, .bool false, .slice none 0 0] := (hbb.block _ (Nat.lt_of_lt_of_le (by simp) hba.size)).trans ((hba.block _ (by first | (simp; done) | (simp; omega) | omega)).trans (Bk.alloc_ w _ _))
  have hu2 := hu.below hbb (Nat.le_refl _) hbb.size
  have hW : W 1 ≤ W 536870912 := W_mono (by omega)
  have hW2 : W 2 ≤ W 536870912 := W_mono (by omega)
  have hW1 : W 1 = 4294967296 := by decide
  have hW3 : W 2 = 18446744073709551616 := by decide
  have HP := Lib.hid (fraction_num u v m 1 wb hu2 hv (by omega) (by omega) (by omega))
  have HF : Hid (Rat.divInt m 1 = (m : Rat)) := Rat.ext (by rw [Rat.num_divInt]; simp) (by rw [Rat.den_divInt]; simp)
  have HBEL := Lib.hid hbel
  have K2 := Lib.hid k2
  clear hba hbb hu hv hu2 hba2 hbel k2 hW hW1 hW2 hW3
  go_wp2_with fail
  refine HP.out.mono ?_
  rintro e wf ⟨hbf, r, rfl, hr⟩
  have hbl := HBEL.out.trans (hbf.mono HBEL.out.size)
  have k3 := K2.out.below hbf K2.out.lt
  obtain ⟨s, A, n, c, t, A', n', c', rfl, hr1, hr2⟩ := hr
  have e0 : wf.cell? ⟨w.heap.size, 0, none⟩ = some (.bool false) := by simpa using k3.cell 0
  have e1 : wf.cell? ⟨w.heap.size, 1, none⟩ = some (.slice none 0 0) := by simpa using k3.cell 1
  have e2 : wf.cell? ⟨w.heap.size, 2, none⟩ = some (.bool false) := by simpa using k3.cell 2
  have e3 : wf.cell? ⟨w.heap.size, 3, none⟩ = some (.slice none 0 0) := by simpa using k3.cell 3
  have f0 := k3.frozen 0
  have f1 := k3.frozen 1
  have f2 := k3.frozen 2
  have f3 := k3.frozen 3
  have R1 := Lib.hid hr1
  have R2 := Lib.hid hr2
  have HBL := Lib.hid hbl
  have K3 := Lib.hid k3
  clear hr1 hr2 hbl k3 hbf
  go_wp2
  have hs : Hid (∀ a : Addr, a.block ≠ w.heap.size → ((((wf.setCell ⟨w.heap.size, 0, none⟩ (.bool s)).setCell ⟨w.heap.size, 1, none⟩ (.slice A n c)).setCell ⟨w.heap.size, 2, none⟩ (.bool t)).setCell ⟨w.heap.size, 3, none⟩ (.slice A' n' c')).cell? a = wf.cell? a) := set4_other _ _ _ _ _ _
  refine bodyPost_ret (v := .agg #[.bool s, .slice A n c, .bool t, .slice A' n' c']) (by simp [results, Tryz.results29, go_sem, e0, e1, e2, e3]) rfl ⟨(((HBL.out.setCell (by first | (simp; done) | (simp; omega) | omega) _).setCell (by first | (simp; done) | (simp; omega) | omega) _).setCell (by first | (simp; done) | (simp; omega) | omega) _).setCell (by first | (simp; done) | (simp; omega) | omega) _, _, rfl, _, _, _, _, _, _, _, _, rfl, ?_, ?_⟩
  · rw [← HF.out]; exact (R1.out.other K3.out (fun _ _ => rat_cells) hs.out).mono (by simp)
  · rw [← HF.out]; exact (R2.out.other K3.out (fun _ _ => rat_cells) hs.out).mono (by simp)

end Go.Proofs.YtgfbanlefkajhaaGreat
