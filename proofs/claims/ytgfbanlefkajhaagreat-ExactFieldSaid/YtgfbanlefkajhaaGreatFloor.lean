/- The walk of Floor. -/
import Derived.Test.YtgfbanlefkajhaaGreatWhole
import Derived.Test.YtgfbanlefkajhaaGreatQuotient
namespace Go.Proofs.YtgfbanlefkajhaaGreat
open Go.RowKit

/-- The numerator and the denominator that terms tells of a/b. -/
def tnum (a b : Int) : Int := if b < 0 then -a else a
def tden (b : Int) : Int := if b = 0 then 1 else if b < 0 then -b else b
theorem Terms.eq {a b p q : Int} (h : Terms a b p q) : p = tnum a b ∧ q = tden b := by
  unfold tnum tden
  rcases h with ⟨rfl, rfl, rfl⟩ | ⟨hb, rfl, rfl⟩ | ⟨hb, rfl, rfl⟩
  · simp
  · rw [if_pos hb, if_neg (by omega), if_pos hb]; exact ⟨rfl, rfl⟩
  · rw [if_neg (by omega), if_neg (by omega), if_neg (by omega)]; exact ⟨rfl, rfl⟩

theorem divide_num (u v : Value) (p q : Int) (w : World) (hu : NumAt w w.heap.size u p) (hv : NumAt w w.heap.size v q) (hp : p.natAbs < W 536870912) (hq : q.natAbs < W 536870912) :
    Calls Tryz.prog 19 #[u, v] w (DivideR p q w) := by
  obtain ⟨s1, A1, n1, c1, l1, rfl, L1, N1, rfl⟩ := hu
  obtain ⟨s2, A2, n2, c2, l2, rfl, L2, N2, rfl⟩ := hv
  rw [sg_natAbs] at hp hq
  have m1 := norm_len_le N1 hp
  have m2 := norm_len_le N2 hq
  rw [L1.len] at m1
  rw [L2.len] at m2
  exact divideInt_any s1 s2 A1 A2 n1 c1 n2 c2 l1 l2 w L1 L2 m1 m2

set_option maxRecDepth 100000 in
set_option maxHeartbeats 4000000 in
theorem floor_any (s1 s2 : Bool) (A1 A2 : Option Addr) (n1 c1 n2 c2 : Nat) (l1 l2 : List Nat) (w : World) (h1 : Lim w w.heap.size A1 n1 c1 l1) (h2 : Lim w w.heap.size A2 n2 c2 l2) (b1 : n1 ≤ 536870912) (b2 : n2 ≤ 536870912) :
    Calls Tryz.prog 32 #[.agg #[.bool s1, .slice A1 n1 c1, .bool s2, .slice A2 n2 c2]] w (IntR (tnum (sg s1 (val l1)) (sg s2 (val l2)) / tden (sg s2 (val l2))) w) := by
  have H1 : Hid (∀ w', Below w.heap.size w w' → Lim w' w'.heap.size A1 n1 c1 l1) := fun w' hb => h1.below hb (Nat.le_refl _) hb.size
  have H2 : Hid (∀ w', Below w.heap.size w w' → Lim w' w'.heap.size A2 n2 c2 l2) := fun w' hb => h2.below hb (Nat.le_refl _) hb.size
  have B1 := Lib.hid (sg_below (s := s1) h1.bd h1.len b1)
  have B2 := Lib.hid (sg_below (s := s2) h2.bd h2.len b2)
  clear h1 h2
  go_enter Tryz.func32, Tryz.ntmps32
  go_wp2_with fail
  refine (terms_any s1 s2 A1 A2 n1 c1 n2 c2 l1 l2 _ (H1.out _ (by repeat (first | exact Below.refl _ _ | assumption | refine Below.drew ?_ | refine Below.drewN ?_ _ | refine Below.alloc ?_ (by simp <;> omega) _ | refine Below.setCell ?_ (by simp <;> omega) _))) (H2.out _ (by repeat (first | exact Below.refl _ _ | assumption | refine Below.drew ?_ | refine Below.drewN ?_ _ | refine Below.alloc ?_ (by simp <;> omega) _ | refine Below.setCell ?_ (by simp <;> omega) _)))).mono ?_
  rintro e wt ⟨hbt, u, v, p, q, rfl, hu, hv, ht⟩
  have hbel : Below w.heap.size w wt := (alloc2_below _ _ _).trans (hbt.mono (by simp; omega))
  have k2 : Bk wt (w.heap.size + 1) 24 #[.bool false, .slice none 0 0] := (hbt.block _ (by first | (simp; done) | (simp; omega) | omega)).trans (alloc2_bk w _ _ _)
  obtain ⟨-, hq0⟩ := ht.frac
  obtain ⟨hp, hq⟩ := ht.bounds B1.out B2.out (by omega)
  obtain ⟨hpe, hqe⟩ := ht.eq
  have HE : Hid (p / q = tnum (sg s1 (val l1)) (sg s2 (val l2)) / tden (sg s2 (val l2))) := by show _ = _; rw [hpe, hqe]
  have HP := Lib.hid (divide_num u v p q wt hu hv hp hq)
  have HBEL := Lib.hid hbel
  have K2 := Lib.hid k2
  have HQ0 := Lib.hid hq0
  clear hbt hu hv ht hp hq hq0 hbel k2 hpe hqe
  go_wp2_with fail
  refine HP.out.mono ?_
  rintro e wd ⟨hb, x, y, h⟩
  rcases h with ⟨h0, -⟩ | ⟨-, hu, hv, rfl⟩
  · exact absurd h0 (by have := HQ0.out; omega)
  have HU := Lib.hid hu
  have hbel := HBEL.out.trans (hb.mono HBEL.out.size)
  have k3 := K2.out.below hb K2.out.lt
  obtain ⟨tu, Au, qu, cu, lu, rfl, -⟩ := hu
  obtain ⟨tv, Av, qv, cv, lv, rfl, -⟩ := hv
  have o3 := k3.lt
  have k4 : Bk ((wd.alloc (.cells #[.bool tu, .slice Au qu cu] 24)).alloc (.cells #[.bool tv, .slice Av qv cv] 24)) (w.heap.size + 1) 24 #[.bool false, .slice none 0 0] := (k3.alloc _).alloc _
  have e0 : ((wd.alloc (.cells #[.bool tu, .slice Au qu cu] 24)).alloc (.cells #[.bool tv, .slice Av qv cv] 24)).cell? ⟨w.heap.size + 1, 0, none⟩ = some (.bool false) := by simpa using k4.cell 0
  have e1 : ((wd.alloc (.cells #[.bool tu, .slice Au qu cu] 24)).alloc (.cells #[.bool tv, .slice Av qv cv] 24)).cell? ⟨w.heap.size + 1, 1, none⟩ = some (.slice none 0 0) := by simpa using k4.cell 1
  have f0 := k4.frozen 0
  have f1 := k4.frozen 1
  have hbe : Below w.heap.size w ((wd.alloc (.cells #[.bool tu, .slice Au qu cu] 24)).alloc (.cells #[.bool tv, .slice Av qv cv] 24)) := (hbel.alloc (by omega) _).alloc (by simp; omega) _
  have hout := (HU.out.below (((Below.refl wd.heap.size wd).alloc (Nat.le_refl _) (.cells #[.bool tu, .slice Au qu cu] 24)).alloc (by simp) (.cells #[.bool tv, .slice Av qv cv] 24)) (Nat.le_refl _) (Nat.le_refl _))
  have HBE := Lib.hid hbe
  have HOUT := Lib.hid hout
  have K4 := Lib.hid k4
  clear hbe hout k3 k4 hb hbel
  go_wp2
  refine bodyPost_ret (v := .agg #[.bool tu, .slice Au qu cu]) (by simp [results, Tryz.results32, go_sem, e0, e1]) rfl ⟨(HBE.out.setCell (by first | (simp; done) | (simp; omega) | omega) _).setCell (by first | (simp; done) | (simp; omega) | omega) _, _, rfl, ?_⟩
  rw [← HE.out]
  exact (HOUT.out.past K4.out _ _).mono (by simp; omega)

end Go.Proofs.YtgfbanlefkajhaaGreat
