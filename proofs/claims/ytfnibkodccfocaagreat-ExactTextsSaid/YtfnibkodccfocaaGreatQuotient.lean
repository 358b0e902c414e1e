/- The walks of quotient and signOf. -/
import Derived.Test.YtfnibkodccfocaaGreatDivideInt
import Derived.Test.YtfnibkodccfocaaGreatCmpInt
namespace Go.Proofs.YtfnibkodccfocaaGreat
open Go.RowKit

theorem IntAt.past {w : World} {B : Nat} {a : Value} {z : Int} (h : IntAt w B a z) {g t : Nat} {x : Bool} {y1 : Option Addr} {y2 y3 : Nat} (hb : Bk w g t #[.bool x, .slice y1 y2 y3]) (u v : Value) :
    IntAt ((w.setCell ⟨g, 0, none⟩ u).setCell ⟨g, 1, none⟩ v) B a z := by
  obtain ⟨s, A, n, c, l, e, hl, hn, hz, hs⟩ := h
  exact ⟨s, A, n, c, l, e, hl.past hb u v, hn, hz, hs⟩

set_option maxRecDepth 100000 in
set_option maxHeartbeats 4000000 in
theorem quotient_any (s1 s2 : Bool) (A1 A2 : Option Addr) (n1 c1 n2 c2 : Nat) (l1 l2 : List Nat) (w : World) (h1 : Lim w w.heap.size A1 n1 c1 l1) (h2 : Lim w w.heap.size A2 n2 c2 l2) (b1 : n1 ≤ 536870912) (b2 : n2 ≤ 536870912) (hy : sg s2 (val l2) ≠ 0) :
    Calls Tryz.prog 142 #[.agg #[.bool s1, .slice A1 n1 c1], .agg #[.bool s2, .slice A2 n2 c2]] w (IntR (sg s1 (val l1) / sg s2 (val l2)) w) := by
  have H1 : Hid (∀ w', Below w.heap.size w w' → Lim w' w'.heap.size A1 n1 c1 l1) := fun w' hb => h1.below hb (Nat.le_refl _) hb.size
  have H2 : Hid (∀ w', Below w.heap.size w w' → Lim w' w'.heap.size A2 n2 c2 l2) := fun w' hb => h2.below hb (Nat.le_refl _) hb.size
  clear h1 h2
  go_enter Tryz.func142, Tryz.ntmps142
  go_wp2_with fail
  refine (divideInt_any s1 s2 A1 A2 n1 c1 n2 c2 l1 l2 _ (H1.out _ (by repeat (first | exact Below.refl _ _ | assumption | refine Below.drew ?_ | refine Below.drewN ?_ _ | refine Below.alloc ?_ (by simp <;> omega) _ | refine Below.setCell ?_ (by simp <;> omega) _))) (H2.out _ (by repeat (first | exact Below.refl _ _ | assumption | refine Below.drew ?_ | refine Below.drewN ?_ _ | refine Below.alloc ?_ (by simp <;> omega) _ | refine Below.setCell ?_ (by simp <;> omega) _))) b1 b2).mono ?_
  rintro e wd ⟨hb, u, v, h⟩
  have hbel : Below w.heap.size w wd := (alloc3_below _ _ _ _).trans (hb.mono (by simp; omega))
  rcases h with ⟨h0, -⟩ | ⟨-, hu, hv, rfl⟩
  · exact absurd h0 hy
  have HU := Lib.hid hu
  obtain ⟨tu, Au, qu, cu, lu, rfl, -⟩ := hu
  obtain ⟨tv, Av, qv, cv, lv, rfl, -⟩ := hv
  have k3 : Bk wd (w.heap.size + 2) 24 #[.bool false, .slice none 0 0] := (hb.block _ (by simp)).trans (by have h := Bk.alloc_ ((w.alloc (.cells #[.bool s1, .slice A1 n1 c1] 24)).alloc (.cells #[.bool s2, .slice A2 n2 c2] 24)) 24 #[.bool false, .slice none 0 0]; rw [World.size_alloc, World.size_alloc] at h; exact h)
  have o3 := k3.lt
  have k4 : Bk ((wd.alloc (.cells #[.bool tu, .slice Au qu cu] 24)).alloc (.cells #[.bool tv, .slice Av qv cv] 24)) (w.heap.size + 1 + 1) 24 #[.bool false, .slice none 0 0] := (k3.alloc _).alloc _
  have e0 : ((wd.alloc (.cells #[.bool tu, .slice Au qu cu] 24)).alloc (.cells #[.bool tv, .slice Av qv cv] 24)).cell? ⟨w.heap.size + 1 + 1, 0, none⟩ = some (.bool false) := by simpa using k4.cell 0
  have e1 : ((wd.alloc (.cells #[.bool tu, .slice Au qu cu] 24)).alloc (.cells #[.bool tv, .slice Av qv cv] 24)).cell? ⟨w.heap.size + 1 + 1, 1, none⟩ = some (.slice none 0 0) := by simpa using k4.cell 1
  have f0 := k4.frozen 0
  have f1 := k4.frozen 1
  have hbe : Below w.heap.size w ((wd.alloc (.cells #[.bool tu, .slice Au qu cu] 24)).alloc (.cells #[.bool tv, .slice Av qv cv] 24)) := (hbel.alloc (by omega) _).alloc (by simp; omega) _
  have hout := (((HU.out.below (((Below.refl wd.heap.size wd).alloc (Nat.le_refl _) (.cells #[.bool tu, .slice Au qu cu] 24)).alloc (by simp) (.cells #[.bool tv, .slice Av qv cv] 24)) (Nat.le_refl _) (Nat.le_refl _))))
  have HBE := Lib.hid hbe
  have HOUT := Lib.hid hout
  have K4 := Lib.hid k4
  clear hbe hout k3 k4 hb hbel
  go_wp2
  refine bodyPost_ret (v := .agg #[.bool tu, .slice Au qu cu]) (by simp [results, Tryz.results142, go_sem, e0, e1]) rfl ⟨(HBE.out.setCell (by simp; omega) _).setCell (by simp; omega) _, _, rfl, (HOUT.out.past K4.out _ _).mono (by simp; omega)⟩

end Go.Proofs.YtfnibkodccfocaaGreat
