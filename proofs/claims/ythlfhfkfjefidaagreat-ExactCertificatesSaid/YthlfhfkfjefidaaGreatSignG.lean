/- Several texts in one. -/
import Derived.Test.YthlfhfkfjefidaaGreatRatG
import Derived.Test.YthlfhfkfjefidaaGreatKnuG
import Derived.Test.YthlfhfkfjefidaaGreatFrac1
/- The walk of signOf. -/
namespace Go.Proofs.YthlfhfkfjefidaaGreat
open Go.RowKit
set_option maxRecDepth 100000 in
theorem signOf_any (s : Bool) (A : Option Addr) (n c : Nat) (l : List Nat) (w : World) (h : Lim w w.heap.size A n c l) :
 Calls Tryz.prog 116 #[.agg #[.bool s, .slice A n c]] w fun e w' => e = .returned (.int .i64 (cmpI (sg s (val l)) 0)) ∧ Below w.heap.size w w' := by
 have H1 : Hid (∀ w', Below w.heap.size w w' → Lim w' w'.heap.size A n c l) := fun w' hb => h.below hb (Nat.le_refl _) hb.size
 clear h
 go_enter Tryz.func116, Tryz.ntmps116
 go_wp2_with fail
 have hb0 : Below w.heap.size w (w.alloc (.cells #[.bool s, .slice A n c] 24)) := (Below.refl _ _).alloc (Nat.le_refl _) _
 have HB0 := Lib.hid hb0
 clear hb0
 refine (cmpInt_any s false A none n c 0 0 l [] _ (H1.out _ HB0.out) (Lim.nil_ _ _)).mono ?_
 rintro e w1 ⟨rfl, hb1⟩
 go_wp2
 go_ret
 exact ⟨rfl, HB0.out.trans (hb1.mono (by simp))⟩
end Go.Proofs.YthlfhfkfjefidaaGreat
/- The walk of signOfRat. -/
namespace Go.Proofs.YthlfhfkfjefidaaGreat
open Go.RowKit
theorem signOf_num (u : Value) (p : Int) (w : World) (hu : NumAt w w.heap.size u p) :
 Calls Tryz.prog 116 #[u] w fun e w' => e = .returned (.int .i64 (cmpI p 0)) ∧ Below w.heap.size w w' := by
 obtain ⟨s1, A1, n1, c1, l1, rfl, L1, N1, rfl⟩ := hu
 exact signOf_any s1 A1 n1 c1 l1 w L1
set_option maxRecDepth 100000 in
set_option maxHeartbeats 4000000 in
theorem signOfRat_any (s1 s2 : Bool) (A1 A2 : Option Addr) (n1 c1 n2 c2 : Nat) (l1 l2 : List Nat) (w : World) (h1 : Lim w w.heap.size A1 n1 c1 l1) (h2 : Lim w w.heap.size A2 n2 c2 l2) :
 Calls Tryz.prog 81 #[.agg #[.bool s1, .slice A1 n1 c1, .bool s2, .slice A2 n2 c2]] w fun e w' => e = .returned (.int .i64 (cmpI (tnum (sg s1 (val l1)) (sg s2 (val l2))) 0)) ∧ Below w.heap.size w w' := by
 have H1 : Hid (∀ w', Below w.heap.size w w' → Lim w' w'.heap.size A1 n1 c1 l1) := fun w' hb => h1.below hb (Nat.le_refl _) hb.size
 have H2 : Hid (∀ w', Below w.heap.size w w' → Lim w' w'.heap.size A2 n2 c2 l2) := fun w' hb => h2.below hb (Nat.le_refl _) hb.size
 clear h1 h2
 go_enter Tryz.func81, Tryz.ntmps81
 go_wp2_with fail
 refine (terms_any s1 s2 A1 A2 n1 c1 n2 c2 l1 l2 _ (H1.out _ (by repeat (first | exact Below.refl _ _ | assumption | refine Below.drew ?_ | refine Below.drewN ?_ _ | refine Below.alloc ?_ (by simp <;> omega) _ | refine Below.setCell ?_ (by simp <;> omega) _))) (H2.out _ (by repeat (first | exact Below.refl _ _ | assumption | refine Below.drew ?_ | refine Below.drewN ?_ _ | refine Below.alloc ?_ (by simp <;> omega) _ | refine Below.setCell ?_ (by simp <;> omega) _)))).mono ?_
 rintro e wt ⟨hbt, u, v, p, q, rfl, hu, hv, ht⟩
 have hbel : Below w.heap.size w wt := ((Below.refl _ _).alloc (Nat.le_refl _) _).trans (hbt.mono (by simp))
 obtain ⟨hpe, -⟩ := ht.eq
 have HPE := Lib.hid hpe
 have HU := Lib.hid hu
 obtain ⟨su, Au, nu, cu, lu, rfl, -⟩ := hu
 obtain ⟨sv, Av, nv, cv, lv, rfl, -⟩ := hv
 have hbe : Below wt.heap.size wt ((wt.alloc (.cells #[.bool su, .slice Au nu cu] 24)).alloc (.cells #[.bool sv, .slice Av nv cv] 24)) := alloc2_below _ _ _
 have HP := Lib.hid (signOf_num _ p _ (HU.out.below hbe (Nat.le_refl _) hbe.size))
 have HBE := Lib.hid (hbel.trans (hbe.mono hbel.size))
 clear hbt ht hpe hbel hbe
 go_wp2_with fail
 refine HP.out.mono ?_
 rintro e wf ⟨rfl, hbf⟩
 have HBF := Lib.hid hbf
 clear hbf
 go_wp2
 go_ret
 exact ⟨by rw [HPE.out]; rfl, HBE.out.trans (HBF.out.mono HBE.out.size)⟩
end Go.Proofs.YthlfhfkfjefidaaGreat
