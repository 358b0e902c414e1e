/- Several texts in one. -/
import Derived.Test.YtjdfepchjeogcaaGreatRefF
import Derived.Test.YtjdfepchjeogcaaGreatFracE
import Derived.Test.YtjdfepchjeogcaaGreatRefDivB
/- The reference's Floor. -/
namespace Go.Proofs.YtjdfepchjeogcaaGreat
open Go.RowKit

section
variable {w w1 : World} {s1 s2 : Bool} {A1 A2 : Option Addr} {n1 c1 n2 c2 : Nat} {x : Rat} {K : Nat} {nf : Bool}
theorem floor_parts (x : Rat) : ((x.num / (x.den : Int) : Int) : Rat) ≤ x ∧ x < ((x.num / (x.den : Int) : Int) : Rat) + 1 := floor_fact (Rat.num_divInt_den x) (by have := x.den_pos; omega)
set_option maxRecDepth 100000 in
set_option maxHeartbeats 8000000 in
theorem rfloorH (h : RatH w1 s1 A1 n1 c1 s2 A2 n2 c2 x K nf) (b1 : Below w1.heap.size w1 w) (hk : K ≤ 38) (h0 : 0 < K) :
    Calls Tryz.prog 43 #[.agg #[.bool s1, .slice A1 n1 c1, .bool s2, .slice A2 n2 c2]] w (MakesInt (x.num / (x.den : Int)) (K + 1) w) := by
  go_enter Tryz.func43, Tryz.ntmps43
  go_upto_region 1 with fail
  obtain ⟨W, hW⟩ : ∃ W, W = ((w.alloc (.cells #[.bool s1, .slice A1 n1 c1, .bool s2, .slice A2 n2 c2] 41)).alloc (.cells #[.bool false, .slice none 0 0] 24)) := ⟨_, rfl⟩
  have HBW : Hid (Below w.heap.size w W) := Lib.hid (by rw [hW]; exact (by repeat (first | with_reducible exact Below.refl _ _ | with_reducible assumption | with_reducible refine Below.drew ?_ | with_reducible refine Below.drewN ?_ _ | with_reducible refine Below.alloc2 ?_ _ | with_reducible refine Below.alloc ?_ (by first | omega | (simp <;> omega)) _ | with_reducible refine Below.setCell ?_ (by first | omega | (simp <;> omega)) _ | with_reducible refine Below.step2 (by with_reducible assumption) ?_ | with_reducible refine Below.step (by with_reducible assumption) ?_ (by first | omega | (simp <;> omega)))))
  have HXW : Hid (Bk W w.heap.size 41 #[.bool s1, .slice A1 n1 c1, .bool s2, .slice A2 n2 c2]) := Lib.hid (by rw [hW]; exact (by repeat (first | with_reducible assumption | with_reducible exact Bk.at_ (by first | (simp; done) | omega) | with_reducible refine Bk.alloc ?_ _ | with_reducible refine Bk.drew ?_ | with_reducible refine Bk.drewN ?_ _ | with_reducible refine Bk.step (by with_reducible assumption) ?_ (by first | omega | (simp <;> omega)))))
  have HZW : Hid (Bk W (w.heap.size + 1) 24 #[.bool false, .slice none 0 0]) := Lib.hid (by rw [hW]; exact (by repeat (first | with_reducible assumption | with_reducible exact Bk.at_ (by first | (simp; done) | omega) | with_reducible refine Bk.alloc ?_ _ | with_reducible refine Bk.drew ?_ | with_reducible refine Bk.drewN ?_ _ | with_reducible refine Bk.step (by with_reducible assumption) ?_ (by first | omega | (simp <;> omega)))))
  rw [← hW]
  clear hW
  obtain ⟨a0, a1, a2, a3⟩ := HXW.out.four4
  go_upto_region 2 with (go_at_call 31; go_loud (with_reducible refine (rnormT h (below_to b1 HBW.out b1.size) hk h0).mono ?_; rintro e wn ⟨hbn, t1, B1, m1, d1, t2, B2, m2, d2, rfl, hr⟩; have HBN := Lib.hid (below_to HBW.out hbn HBW.out.size); have hkx := HXW.out.below hbn HXW.out.lt; have f0 := hkx.frozen 0; have f1 := hkx.frozen 1; have f2 := hkx.frozen 2; have f3 := hkx.frozen 3; obtain ⟨r0, r1, r2, r3⟩ := hkx.four4; have HKN := Lib.hid hkx; have HZN := Lib.hid (HZW.out.below hbn HZW.out.lt); have HRN := Lib.hid hr; clear hbn hkx hr))
  obtain ⟨V, hV, hVb, hVk, hVr, hVo, -⟩ := stored_over HBN.out (Nat.le_refl _) HKN.out HRN.out
  rw [← hV]
  clear hV a0 a1 a2 a3 r0 r1 r2 r3 f0 f1 f2 f3
  have HVB := Lib.hid hVb
  have HVZ := Lib.hid (hVo _ _ _ (by omega) HZN.out)
  have HVP := Lib.hid hVr.parts2
  obtain ⟨u0, u1, u2, u3⟩ := hVk.four4
  clear hVb hVk hVr hVo
  have hden : (x.den : Int) ≠ 0 := by have := x.den_pos; omega
  go_upto_region 3 with (go_at_call 21; go_loud (with_reducible refine (rdivH HVP.out.1 HVP.out.2 (Below.refl _ _) (Below.refl _ _) (by omega) (by omega)).mono ?_; rintro e wd ⟨hbd, hres⟩; rcases hres with ⟨he, -⟩ | ⟨-, q1, C1, i1, e1, q2, C2, i2, e2, rfl, hq, hm⟩; (focus (exact absurd he hden)); have HBD := Lib.hid (below_to HVB.out hbd HVB.out.size); have HZD := Lib.hid (HVZ.out.below hbd HVZ.out.lt); have ol := HZD.out.lt; have HQ := Lib.hid hq; clear hbd hq hm))
  obtain ⟨Y, hY⟩ : ∃ Y, Y = ((wd.alloc (.cells #[.bool q1, .slice C1 i1 e1] 24)).alloc (.cells #[.bool q2, .slice C2 i2 e2] 24)) := ⟨_, rfl⟩
  have hdY : Below wd.heap.size wd Y := by rw [hY]; exact ((Below.refl _ _).alloc (Nat.le_refl _) _).alloc (by simp) _
  have hkY : Bk Y wd.heap.size 24 #[.bool q1, .slice C1 i1 e1] := by rw [hY]; exact (Bk.alloc_ _ _ _).alloc _
  have hzY := HZD.out.below hdY HZD.out.lt
  have HBY := Lib.hid (below_to HBD.out hdY HBD.out.size)
  have HIY := Lib.hid ((HQ.out.later hdY).past hzY (.bool q1) (.slice C1 i1 e1))
  rw [← hY]
  obtain ⟨v0, v1⟩ := hkY.duo
  obtain ⟨z0, z1⟩ := hzY.duo
  have f0 := hzY.frozen 0
  have f1 := hzY.frozen 1
  obtain ⟨y0, y1⟩ := (hzY.duoset (.bool q1) (.slice C1 i1 e1)).duo
  clear hY hdY
  go_wp2
  have hg : w.heap.size ≤ w.heap.size + 1 := by omega
  refine bodyPost_ret (v := .agg #[.bool q1, .slice C1 i1 e1]) (by simp [results, Tryz.results43, go_sem, y0, y1]) rfl ?_
  exact ⟨(HBY.out.setCell hg _).setCell hg _, q1, C1, i1, e1, rfl, HIY.out⟩
end

end Go.Proofs.YtjdfepchjeogcaaGreat

/- The reference's Quo. -/
namespace Go.Proofs.YtjdfepchjeogcaaGreat
open Go.RowKit

theorem RatH.tight {w0 : World} {s1 : Bool} {A1 : Option Addr} {n1 c1 : Nat} {s2 : Bool} {A2 : Option Addr} {n2 c2 : Nat} {x : Rat} {K K' : Nat} (h : RatH w0 s1 A1 n1 c1 s2 A2 n2 c2 x K true) (h1 : x.num.natAbs < W K' ∧ x.den < W K') : RatH w0 s1 A1 n1 c1 s2 A2 n2 c2 x K' true := by
  have hm : MakesRat x K w0 (.returned (.agg #[.bool s1, .slice A1 n1 c1, .bool s2, .slice A2 n2 c2])) w0 := ⟨Below.refl _ _, s1, A1, n1, c1, s2, A2, n2, c2, rfl, h⟩
  obtain ⟨-, a1, B1, m1, d1, a2, B2, m2, d2, he, hr⟩ := hm.tight h1.1 h1.2
  simp only [Ending.returned.injEq, Value.agg.injEq, Array.mk.injEq, List.cons.injEq, Value.bool.injEq, Value.slice.injEq, and_true] at he
  obtain ⟨rfl, ⟨rfl, rfl, rfl⟩, rfl, rfl, rfl, rfl⟩ := he
  exact hr
theorem quo_parts (x y : Rat) : Rat.divInt (x.num * y.den) ((x.den : Int) * y.num) = x / y := by
  rw [Rat.div_def, Rat.inv_def, ← Rat.divInt_mul_divInt, Rat.num_divInt_den]
theorem quo_bds {x y : Rat} {K1 K2 : Nat} (h0 : y ≠ 0) (hx : x.num.natAbs < W K1 ∧ x.den < W K1) (hy : y.num.natAbs < W K2 ∧ y.den < W K2) : (x / y).num.natAbs < W (K1 + K2) ∧ (x / y).den < W (K1 + K2) := by
  have hn : y.num ≠ 0 := fun h => h0 (Rat.num_eq_zero.1 h)
  have hd : (x.den : Int) * y.num ≠ 0 := Int.mul_ne_zero (by have := x.den_pos; omega) hn
  have hb := divInt_bd2 (p := x.num * y.den) hd
  rw [quo_parts, Int.natAbs_mul, Int.natAbs_mul] at hb
  rw [W_add]
  exact ⟨Nat.lt_of_le_of_lt hb.1 (Nat.mul_lt_mul_of_lt_of_lt hx.1 hy.2), Nat.lt_of_le_of_lt hb.2 (Nat.mul_lt_mul_of_lt_of_lt hx.2 hy.1)⟩
/- Three blocks of a world: HBW, HKX, HKY, HKZ about %1. -/
section
variable {w w1 w2 : World} {s1 s2 s3 s4 : Bool} {A1 A2 A3 A4 : Option Addr} {n1 c1 n2 c2 n3 c3 n4 c4 : Nat} {x y : Rat} {K1 K2 : Nat} {f1 f2 : Bool}
set_option maxRecDepth 100000 in
set_option maxHeartbeats 8000000 in
theorem rquoH0 (h1 : RatH w1 s1 A1 n1 c1 s2 A2 n2 c2 x K1 f1) (h2 : RatH w2 s3 A3 n3 c3 s4 A4 n4 c4 y K2 f2) (b1 : Below w1.heap.size w1 w) (b2 : Below w2.heap.size w2 w) (hk1 : 0 < K1) (hk2 : 0 < K2) (hk : K1 + K2 ≤ 38) (hy : y = 0) :
    Calls Tryz.prog 39 #[.agg #[.bool s1, .slice A1 n1 c1, .bool s2, .slice A2 n2 c2], .agg #[.bool s3, .slice A3 n3 c3, .bool s4, .slice A4 n4 c4]] w fun e w' => Below w.heap.size w w' ∧ e = .returned (.tuple #[.agg #[.bool false, .slice none 0 0, .bool false, .slice none 0 0], .int .i64 9]) := by
  have hC : cmpI y.num 0 = 0 := cmpI_eq (by rw [hy]; rfl)
  clear hy
  go_enter Tryz.func39, Tryz.ntmps39
  go_upto_region 1 with fail
  obtain ⟨W, hW⟩ : ∃ W, W = (((w.alloc (.cells #[.bool s1, .slice A1 n1 c1, .bool s2, .slice A2 n2 c2] 41)).alloc (.cells #[.bool s3, .slice A3 n3 c3, .bool s4, .slice A4 n4 c4] 41)).alloc (.cells #[.bool false, .slice none 0 0, .bool false, .slice none 0 0] 41)) := ⟨_, rfl⟩
  have HBW : Hid (Below w.heap.size w W) := Lib.hid (by rw [hW]; exact (by repeat (first | with_reducible exact Below.refl _ _ | with_reducible assumption | with_reducible refine Below.drew ?_ | with_reducible refine Below.drewN ?_ _ | with_reducible refine Below.alloc2 ?_ _ | with_reducible refine Below.alloc ?_ (by first | omega | (simp <;> omega)) _ | with_reducible refine Below.setCell ?_ (by first | omega | (simp <;> omega)) _ | with_reducible refine Below.step2 (by with_reducible assumption) ?_ | with_reducible refine Below.step (by with_reducible assumption) ?_ (by first | omega | (simp <;> omega)))))
  have HXW : Hid (Bk W w.heap.size 41 #[.bool s1, .slice A1 n1 c1, .bool s2, .slice A2 n2 c2]) := Lib.hid (by rw [hW]; exact (by repeat (first | with_reducible assumption | with_reducible exact Bk.at_ (by first | (simp; done) | omega) | with_reducible refine Bk.alloc ?_ _ | with_reducible refine Bk.drew ?_ | with_reducible refine Bk.drewN ?_ _ | with_reducible refine Bk.step (by with_reducible assumption) ?_ (by first | omega | (simp <;> omega)))))
  have HYW : Hid (Bk W (w.heap.size + 1) 41 #[.bool s3, .slice A3 n3 c3, .bool s4, .slice A4 n4 c4]) := Lib.hid (by rw [hW]; exact (by repeat (first | with_reducible assumption | with_reducible exact Bk.at_ (by first | (simp; done) | omega) | with_reducible refine Bk.alloc ?_ _ | with_reducible refine Bk.drew ?_ | with_reducible refine Bk.drewN ?_ _ | with_reducible refine Bk.step (by with_reducible assumption) ?_ (by first | omega | (simp <;> omega)))))
  have HZW : Hid (Bk W (w.heap.size + 1 + 1) 41 #[.bool false, .slice none 0 0, .bool false, .slice none 0 0]) := Lib.hid (by rw [hW]; exact (by repeat (first | with_reducible assumption | with_reducible exact Bk.at_ (by first | (simp; done) | omega) | with_reducible refine Bk.alloc ?_ _ | with_reducible refine Bk.drew ?_ | with_reducible refine Bk.drewN ?_ _ | with_reducible refine Bk.step (by with_reducible assumption) ?_ (by first | omega | (simp <;> omega)))))
  rw [← hW]
  clear hW
  have HC : Hid ((fun w' : World => (w'.cell? ⟨w.heap.size, 0, none⟩ = some (.bool s1) ∧ w'.cell? ⟨w.heap.size, 1, none⟩ = some (.slice A1 n1 c1) ∧ w'.cell? ⟨w.heap.size, 2, none⟩ = some (.bool s2) ∧ w'.cell? ⟨w.heap.size, 3, none⟩ = some (.slice A2 n2 c2)) ∧ w'.cell? ⟨w.heap.size + 1, 0, none⟩ = some (.bool s3) ∧ w'.cell? ⟨w.heap.size + 1, 1, none⟩ = some (.slice A3 n3 c3) ∧ w'.cell? ⟨w.heap.size + 1, 2, none⟩ = some (.bool s4) ∧ w'.cell? ⟨w.heap.size + 1, 3, none⟩ = some (.slice A4 n4 c4)) W) := Lib.hid ⟨HXW.out.four4, HYW.out.four4⟩
  refine region_goes (n := 6) (fun w' => (w'.cell? ⟨w.heap.size, 0, none⟩ = some (.bool s1) ∧ w'.cell? ⟨w.heap.size, 1, none⟩ = some (.slice A1 n1 c1) ∧ w'.cell? ⟨w.heap.size, 2, none⟩ = some (.bool s2) ∧ w'.cell? ⟨w.heap.size, 3, none⟩ = some (.slice A2 n2 c2)) ∧ w'.cell? ⟨w.heap.size + 1, 0, none⟩ = some (.bool s3) ∧ w'.cell? ⟨w.heap.size + 1, 1, none⟩ = some (.slice A3 n3 c3) ∧ w'.cell? ⟨w.heap.size + 1, 2, none⟩ = some (.bool s4) ∧ w'.cell? ⟨w.heap.size + 1, 3, none⟩ = some (.slice A4 n4 c4)) [4, 5] (by kernel_rfl) rfl ?_
  refine goes_takeE (i := 0) (E := [1, 3, 4, 5]) (v := .agg #[.bool s1, .slice A1 n1 c1, .bool s2, .slice A2 n2 c2]) rfl (by kernel_rfl) rfl (fun _ _ _ h => h) (by intro w' hw'; obtain ⟨⟨z0, z1, z2, z3⟩, z4, z5, z6, z7⟩ := hw'; go_simp) HC.out ?_
  refine goes_takeE (i := 2) (E := [3, 4, 5]) (v := .agg #[.bool s3, .slice A3 n3 c3, .bool s4, .slice A4 n4 c4]) rfl (by kernel_rfl) rfl (fun _ _ _ h => h) (by intro w' hw'; obtain ⟨⟨z0, z1, z2, z3⟩, z4, z5, z6, z7⟩ := hw'; go_simp) HC.out ?_
  refine goes_call (i := 1) rfl (by kernel_rfl) ?_
  go_wp2_with (go_at_call 31; go_loud (with_reducible refine (rnormT h1 (below_to b1 HBW.out b1.size).drew (by omega) hk1).mono ?_; rintro e wm ⟨hbm, t1, B1, m1, d1, t2, B2, m2, d2, rfl, hr⟩; have hbm := below_drw hbm; have HBM := Lib.hid (below_to HBW.out hbm HBW.out.size); have HXM := Lib.hid (HXW.out.below hbm HXW.out.lt); have HYM := Lib.hid (HYW.out.below hbm HYW.out.lt); have HZM := Lib.hid (HZW.out.below hbm HZW.out.lt); have HRM := Lib.hid hr; clear hbm hr))
  refine behind_ok ⟨⟨HXM.out.four4, HYM.out.four4⟩, ?_⟩
  refine goes_call (i := 3) rfl (by kernel_rfl) ?_
  go_wp2_with (go_at_call 31; go_loud (with_reducible refine (rnormT h2 (below_to b2 HBM.out b2.size) (by omega) hk2).mono ?_; rintro e wn ⟨hbn, t3, B3, m3, d3, t4, B4, m4, d4, rfl, hr⟩; have HBN := Lib.hid (below_to HBM.out hbn HBM.out.size); have HXN := Lib.hid (HXM.out.below hbn HXM.out.lt); have HYN := Lib.hid (HYM.out.below hbn HYM.out.lt); have HZN := Lib.hid (HZM.out.below hbn HZM.out.lt); have HRN := Lib.hid hr; have HRM2 := Lib.hid (HRM.out.later hbn); obtain ⟨x0, x1, x2, x3⟩ := HXN.out.four4; obtain ⟨x4, x5, x6, x7⟩ := HYN.out.four4; have g0 := HXN.out.frozen 0; have g1 := HXN.out.frozen 1; have g2 := HXN.out.frozen 2; have g3 := HXN.out.frozen 3; have g4 := HYN.out.frozen 0; have g5 := HYN.out.frozen 1; have g6 := HYN.out.frozen 2; have g7 := HYN.out.frozen 3; clear hbn hr))
  refine behind_ok ⟨⟨HXN.out.four4, HYN.out.four4⟩, ?_⟩
  refine goes_last (i := 4) rfl (by kernel_rfl) (by kernel_rfl) ?_
  go_wp2_with fail
  obtain ⟨V, hV, hVb, hVk, hVr, hVo, hVs⟩ := stored_over HBN.out (Nat.le_refl _) HXN.out HRM2.out
  rw [← hV]
  refine behind_ok ?_
  have HVY := Lib.hid (hVo _ _ _ (show w.heap.size + 1 ≠ w.heap.size by omega) HYN.out)
  have HVZ := Lib.hid (hVo _ _ _ (show w.heap.size + 1 + 1 ≠ w.heap.size by omega) HZN.out)
  have HVN := Lib.hid (HRN.out.stored HXN.out (fun p hp => by rw [hV]; exact set_four (o1 := 0) (o2 := 1) (o3 := 2) (o4 := 3) _ _ _ _ p hp) hVs)
  clear hV g4 g5 g6 g7 x4 x5 x6 x7
  obtain ⟨x4, x5, x6, x7⟩ := HVY.out.four4
  have g4 := HVY.out.frozen 0
  have g5 := HVY.out.frozen 1
  have g6 := HVY.out.frozen 2
  have g7 := HVY.out.frozen 3
  have HVB := Lib.hid hVb
  have HVK := Lib.hid hVk
  have HVR := Lib.hid hVr
  clear hVb hVk hVr hVo hVs HC
  refine goes_last (i := 5) rfl (by kernel_rfl) (by kernel_rfl) ?_
  go_wp2_with fail
  obtain ⟨U, hU, hUb, hUk, hUr, hUo, hUs⟩ := stored_over HVB.out (show w.heap.size ≤ w.heap.size + 1 by omega) HVY.out HVN.out
  rw [← hU]
  refine behind_ok (goes_done (by kernel_rfl) ?_)
  have HUX := Lib.hid (hUo _ _ _ (show w.heap.size ≠ w.heap.size + 1 by omega) HVK.out)
  have HUZ := Lib.hid (hUo _ _ _ (show w.heap.size + 1 + 1 ≠ w.heap.size + 1 by omega) HVZ.out)
  have HUP := Lib.hid (HVR.out.stored HVY.out (fun p hp => by rw [hU]; exact set_four (o1 := 0) (o2 := 1) (o3 := 2) (o4 := 3) _ _ _ _ p hp) hUs).parts2
  have HUQ := Lib.hid hUr.parts2
  have hUr2 := hUr
  have HUY := Lib.hid hUk
  have HUB := Lib.hid hUb
  clear hU hUb hUk hUr hUo hUs g0 g1 g2 g3 g4 g5 g6 g7 x0 x1 x2 x3 x4 x5 x6 x7
  have HUS := Lib.hid hUr2
  clear hUr2
  clear HBW HXW HYW HZW HBM HXM HYM HZM HRM HBN HXN HYN HZN HRN HRM2 HVB HVK HVR HVY HVZ HVN
  obtain ⟨x4, x5, x6, x7⟩ := HUY.out.four4
  go_wp2_with (go_at_call 73; go_loud (with_reducible refine (rsignOfH HUS.out (Below.refl _ _) hC).mono ?_; rintro e ws ⟨hbs, rfl⟩; have HBS := Lib.hid (below_to HUB.out hbs HUB.out.size); have HXS := Lib.hid (HUX.out.below hbs HUX.out.lt); have HYS := Lib.hid (HUY.out.below hbs HUY.out.lt); have HZS := Lib.hid (HUZ.out.below hbs HUZ.out.lt); have HPS := Lib.hid (And.intro (HUP.out.1.later hbs) (HUP.out.2.later hbs)); have HQS := Lib.hid (And.intro (HUQ.out.1.later hbs) (HUQ.out.2.later hbs)); obtain ⟨r0, r1, r2, r3⟩ := HZS.out.four4; have fz0 := HZS.out.frozen 0; have fz1 := HZS.out.frozen 1; have fz2 := HZS.out.frozen 2; have fz3 := HZS.out.frozen 3; clear hbs))
  obtain ⟨y0, y1, y2, y3⟩ := (HZS.out.four_set (.bool false) (.slice none 0 0) (.bool false) (.slice none 0 0)).four4
  have hb := HBS.out
  have hg : w.heap.size ≤ w.heap.size + 1 + 1 := by omega
  refine bodyPost_ret (v := .tuple #[.agg #[.bool false, .slice none 0 0, .bool false, .slice none 0 0], .int .i64 9]) (by simp [results, Tryz.results39, go_sem, y0, y1, y2, y3]) rfl ?_
  exact ⟨(((hb.setCell hg _).setCell hg _).setCell hg _).setCell hg _, rfl⟩
set_option maxRecDepth 100000 in
set_option maxHeartbeats 8000000 in
theorem rquoH (h1 : RatH w1 s1 A1 n1 c1 s2 A2 n2 c2 x K1 f1) (h2 : RatH w2 s3 A3 n3 c3 s4 A4 n4 c4 y K2 f2) (b1 : Below w1.heap.size w1 w) (b2 : Below w2.heap.size w2 w) (hk1 : 0 < K1) (hk2 : 0 < K2) (hk : K1 + K2 ≤ 38) (hy : y ≠ 0) :
    Calls Tryz.prog 39 #[.agg #[.bool s1, .slice A1 n1 c1, .bool s2, .slice A2 n2 c2], .agg #[.bool s3, .slice A3 n3 c3, .bool s4, .slice A4 n4 c4]] w fun e w' => Below w.heap.size w w' ∧ ∃ s1 A1 n1 c1 s2 A2 n2 c2, e = .returned (.tuple #[.agg #[.bool s1, .slice A1 n1 c1, .bool s2, .slice A2 n2 c2], .int .i64 0]) ∧ RatH w' s1 A1 n1 c1 s2 A2 n2 c2 (x / y) (K1 + K2) true := by
  have HBD := Lib.hid (quo_bds hy (h1.bds hk1) (h2.bds hk2))
  have hn : y.num ≠ 0 := fun h => hy (Rat.num_eq_zero.1 h)
  obtain ⟨C, hC⟩ : ∃ C, cmpI y.num 0 = C := ⟨_, rfl⟩
  have hC0 : ¬ C = 0 := by
    rw [← hC]
    rcases Int.lt_trichotomy y.num 0 with h | h | h
    · rw [cmpI_lt h]; omega
    · exact absurd h hn
    · rw [cmpI_gt h]; omega
  have hCb : (C == 0) = false := by simpa using hC0
  have HN := Lib.hid hn
  clear hy hn
  go_enter Tryz.func39, Tryz.ntmps39
  go_upto_region 1 with fail
  obtain ⟨W, hW⟩ : ∃ W, W = (((w.alloc (.cells #[.bool s1, .slice A1 n1 c1, .bool s2, .slice A2 n2 c2] 41)).alloc (.cells #[.bool s3, .slice A3 n3 c3, .bool s4, .slice A4 n4 c4] 41)).alloc (.cells #[.bool false, .slice none 0 0, .bool false, .slice none 0 0] 41)) := ⟨_, rfl⟩
  have HBW : Hid (Below w.heap.size w W) := Lib.hid (by rw [hW]; exact (by repeat (first | with_reducible exact Below.refl _ _ | with_reducible assumption | with_reducible refine Below.drew ?_ | with_reducible refine Below.drewN ?_ _ | with_reducible refine Below.alloc2 ?_ _ | with_reducible refine Below.alloc ?_ (by first | omega | (simp <;> omega)) _ | with_reducible refine Below.setCell ?_ (by first | omega | (simp <;> omega)) _ | with_reducible refine Below.step2 (by with_reducible assumption) ?_ | with_reducible refine Below.step (by with_reducible assumption) ?_ (by first | omega | (simp <;> omega)))))
  have HXW : Hid (Bk W w.heap.size 41 #[.bool s1, .slice A1 n1 c1, .bool s2, .slice A2 n2 c2]) := Lib.hid (by rw [hW]; exact (by repeat (first | with_reducible assumption | with_reducible exact Bk.at_ (by first | (simp; done) | omega) | with_reducible refine Bk.alloc ?_ _ | with_reducible refine Bk.drew ?_ | with_reducible refine Bk.drewN ?_ _ | with_reducible refine Bk.step (by with_reducible assumption) ?_ (by first | omega | (simp <;> omega)))))
  have HYW : Hid (Bk W (w.heap.size + 1) 41 #[.bool s3, .slice A3 n3 c3, .bool s4, .slice A4 n4 c4]) := Lib.hid (by rw [hW]; exact (by repeat (first | with_reducible assumption | with_reducible exact Bk.at_ (by first | (simp; done) | omega) | with_reducible refine Bk.alloc ?_ _ | with_reducible refine Bk.drew ?_ | with_reducible refine Bk.drewN ?_ _ | with_reducible refine Bk.step (by with_reducible assumption) ?_ (by first | omega | (simp <;> omega)))))
  have HZW : Hid (Bk W (w.heap.size + 1 + 1) 41 #[.bool false, .slice none 0 0, .bool false, .slice none 0 0]) := Lib.hid (by rw [hW]; exact (by repeat (first | with_reducible assumption | with_reducible exact Bk.at_ (by first | (simp; done) | omega) | with_reducible refine Bk.alloc ?_ _ | with_reducible refine Bk.drew ?_ | with_reducible refine Bk.drewN ?_ _ | with_reducible refine Bk.step (by with_reducible assumption) ?_ (by first | omega | (simp <;> omega)))))
  rw [← hW]
  clear hW
  have HC : Hid ((fun w' : World => (w'.cell? ⟨w.heap.size, 0, none⟩ = some (.bool s1) ∧ w'.cell? ⟨w.heap.size, 1, none⟩ = some (.slice A1 n1 c1) ∧ w'.cell? ⟨w.heap.size, 2, none⟩ = some (.bool s2) ∧ w'.cell? ⟨w.heap.size, 3, none⟩ = some (.slice A2 n2 c2)) ∧ w'.cell? ⟨w.heap.size + 1, 0, none⟩ = some (.bool s3) ∧ w'.cell? ⟨w.heap.size + 1, 1, none⟩ = some (.slice A3 n3 c3) ∧ w'.cell? ⟨w.heap.size + 1, 2, none⟩ = some (.bool s4) ∧ w'.cell? ⟨w.heap.size + 1, 3, none⟩ = some (.slice A4 n4 c4)) W) := Lib.hid ⟨HXW.out.four4, HYW.out.four4⟩
  refine region_goes (n := 6) (fun w' => (w'.cell? ⟨w.heap.size, 0, none⟩ = some (.bool s1) ∧ w'.cell? ⟨w.heap.size, 1, none⟩ = some (.slice A1 n1 c1) ∧ w'.cell? ⟨w.heap.size, 2, none⟩ = some (.bool s2) ∧ w'.cell? ⟨w.heap.size, 3, none⟩ = some (.slice A2 n2 c2)) ∧ w'.cell? ⟨w.heap.size + 1, 0, none⟩ = some (.bool s3) ∧ w'.cell? ⟨w.heap.size + 1, 1, none⟩ = some (.slice A3 n3 c3) ∧ w'.cell? ⟨w.heap.size + 1, 2, none⟩ = some (.bool s4) ∧ w'.cell? ⟨w.heap.size + 1, 3, none⟩ = some (.slice A4 n4 c4)) [4, 5] (by kernel_rfl) rfl ?_
  refine goes_takeE (i := 0) (E := [1, 3, 4, 5]) (v := .agg #[.bool s1, .slice A1 n1 c1, .bool s2, .slice A2 n2 c2]) rfl (by kernel_rfl) rfl (fun _ _ _ h => h) (by intro w' hw'; obtain ⟨⟨z0, z1, z2, z3⟩, z4, z5, z6, z7⟩ := hw'; go_simp) HC.out ?_
  refine goes_takeE (i := 2) (E := [3, 4, 5]) (v := .agg #[.bool s3, .slice A3 n3 c3, .bool s4, .slice A4 n4 c4]) rfl (by kernel_rfl) rfl (fun _ _ _ h => h) (by intro w' hw'; obtain ⟨⟨z0, z1, z2, z3⟩, z4, z5, z6, z7⟩ := hw'; go_simp) HC.out ?_
  refine goes_call (i := 1) rfl (by kernel_rfl) ?_
  go_wp2_with (go_at_call 31; go_loud (with_reducible refine (rnormT h1 (below_to b1 HBW.out b1.size).drew (by omega) hk1).mono ?_; rintro e wm ⟨hbm, t1, B1, m1, d1, t2, B2, m2, d2, rfl, hr⟩; have hbm := below_drw hbm; have HBM := Lib.hid (below_to HBW.out hbm HBW.out.size); have HXM := Lib.hid (HXW.out.below hbm HXW.out.lt); have HYM := Lib.hid (HYW.out.below hbm HYW.out.lt); have HZM := Lib.hid (HZW.out.below hbm HZW.out.lt); have HRM := Lib.hid hr; clear hbm hr))
  refine behind_ok ⟨⟨HXM.out.four4, HYM.out.four4⟩, ?_⟩
  refine goes_call (i := 3) rfl (by kernel_rfl) ?_
  go_wp2_with (go_at_call 31; go_loud (with_reducible refine (rnormT h2 (below_to b2 HBM.out b2.size) (by omega) hk2).mono ?_; rintro e wn ⟨hbn, t3, B3, m3, d3, t4, B4, m4, d4, rfl, hr⟩; have HBN := Lib.hid (below_to HBM.out hbn HBM.out.size); have HXN := Lib.hid (HXM.out.below hbn HXM.out.lt); have HYN := Lib.hid (HYM.out.below hbn HYM.out.lt); have HZN := Lib.hid (HZM.out.below hbn HZM.out.lt); have HRN := Lib.hid hr; have HRM2 := Lib.hid (HRM.out.later hbn); obtain ⟨x0, x1, x2, x3⟩ := HXN.out.four4; obtain ⟨x4, x5, x6, x7⟩ := HYN.out.four4; have g0 := HXN.out.frozen 0; have g1 := HXN.out.frozen 1; have g2 := HXN.out.frozen 2; have g3 := HXN.out.frozen 3; have g4 := HYN.out.frozen 0; have g5 := HYN.out.frozen 1; have g6 := HYN.out.frozen 2; have g7 := HYN.out.frozen 3; clear hbn hr))
  refine behind_ok ⟨⟨HXN.out.four4, HYN.out.four4⟩, ?_⟩
  refine goes_last (i := 4) rfl (by kernel_rfl) (by kernel_rfl) ?_
  go_wp2_with fail
  obtain ⟨V, hV, hVb, hVk, hVr, hVo, hVs⟩ := stored_over HBN.out (Nat.le_refl _) HXN.out HRM2.out
  rw [← hV]
  refine behind_ok ?_
  have HVY := Lib.hid (hVo _ _ _ (show w.heap.size + 1 ≠ w.heap.size by omega) HYN.out)
  have HVZ := Lib.hid (hVo _ _ _ (show w.heap.size + 1 + 1 ≠ w.heap.size by omega) HZN.out)
  have HVN := Lib.hid (HRN.out.stored HXN.out (fun p hp => by rw [hV]; exact set_four (o1 := 0) (o2 := 1) (o3 := 2) (o4 := 3) _ _ _ _ p hp) hVs)
  clear hV g4 g5 g6 g7 x4 x5 x6 x7
  obtain ⟨x4, x5, x6, x7⟩ := HVY.out.four4
  have g4 := HVY.out.frozen 0
  have g5 := HVY.out.frozen 1
  have g6 := HVY.out.frozen 2
  have g7 := HVY.out.frozen 3
  have HVB := Lib.hid hVb
  have HVK := Lib.hid hVk
  have HVR := Lib.hid hVr
  clear hVb hVk hVr hVo hVs HC
  refine goes_last (i := 5) rfl (by kernel_rfl) (by kernel_rfl) ?_
  go_wp2_with fail
  obtain ⟨U, hU, hUb, hUk, hUr, hUo, hUs⟩ := stored_over HVB.out (show w.heap.size ≤ w.heap.size + 1 by omega) HVY.out HVN.out
  rw [← hU]
  refine behind_ok (goes_done (by kernel_rfl) ?_)
  have HUX := Lib.hid (hUo _ _ _ (show w.heap.size ≠ w.heap.size + 1 by omega) HVK.out)
  have HUZ := Lib.hid (hUo _ _ _ (show w.heap.size + 1 + 1 ≠ w.heap.size + 1 by omega) HVZ.out)
  have HUP := Lib.hid (HVR.out.stored HVY.out (fun p hp => by rw [hU]; exact set_four (o1 := 0) (o2 := 1) (o3 := 2) (o4 := 3) _ _ _ _ p hp) hUs).parts2
  have HUQ := Lib.hid hUr.parts2
  have hUr2 := hUr
  have HUY := Lib.hid hUk
  have HUB := Lib.hid hUb
  clear hU hUb hUk hUr hUo hUs g0 g1 g2 g3 g4 g5 g6 g7 x0 x1 x2 x3 x4 x5 x6 x7
  have HUS := Lib.hid hUr2
  clear hUr2
  clear HBW HXW HYW HZW HBM HXM HYM HZM HRM HBN HXN HYN HZN HRN HRM2 HVB HVK HVR HVY HVZ HVN
  obtain ⟨x4, x5, x6, x7⟩ := HUY.out.four4
  go_upto_region 4 with (go_at_call 73; go_loud (with_reducible refine (rsignOfH HUS.out (Below.refl _ _) hC).mono ?_; rintro e ws ⟨hbs, rfl⟩; have HBS := Lib.hid (below_to HUB.out hbs HUB.out.size); have HXS := Lib.hid (HUX.out.below hbs HUX.out.lt); have HYS := Lib.hid (HUY.out.below hbs HUY.out.lt); have HZS := Lib.hid (HUZ.out.below hbs HUZ.out.lt); have HPS := Lib.hid (And.intro (HUP.out.1.later hbs) (HUP.out.2.later hbs)); have HQS := Lib.hid (And.intro (HUQ.out.1.later hbs) (HUQ.out.2.later hbs)); obtain ⟨r0, r1, r2, r3⟩ := HZS.out.four4; have fz0 := HZS.out.frozen 0; have fz1 := HZS.out.frozen 1; have fz2 := HZS.out.frozen 2; have fz3 := HZS.out.frozen 3; clear hbs))
  have HC : Hid ((fun w' : World => (w'.cell? ⟨w.heap.size, 0, none⟩ = some (.bool t1) ∧ w'.cell? ⟨w.heap.size, 1, none⟩ = some (.slice B1 m1 d1) ∧ w'.cell? ⟨w.heap.size, 2, none⟩ = some (.bool t2) ∧ w'.cell? ⟨w.heap.size, 3, none⟩ = some (.slice B2 m2 d2)) ∧ w'.cell? ⟨w.heap.size + 1, 0, none⟩ = some (.bool t3) ∧ w'.cell? ⟨w.heap.size + 1, 1, none⟩ = some (.slice B3 m3 d3) ∧ w'.cell? ⟨w.heap.size + 1, 2, none⟩ = some (.bool t4) ∧ w'.cell? ⟨w.heap.size + 1, 3, none⟩ = some (.slice B4 m4 d4)) ws) := Lib.hid ⟨HXS.out.four4, HYS.out.four4⟩
  clear x4 x5 x6 x7 r0 r1 r2 r3 fz0 fz1 fz2 fz3
  refine region_goes (n := 13) (fun w' => (w'.cell? ⟨w.heap.size, 0, none⟩ = some (.bool t1) ∧ w'.cell? ⟨w.heap.size, 1, none⟩ = some (.slice B1 m1 d1) ∧ w'.cell? ⟨w.heap.size, 2, none⟩ = some (.bool t2) ∧ w'.cell? ⟨w.heap.size, 3, none⟩ = some (.slice B2 m2 d2)) ∧ w'.cell? ⟨w.heap.size + 1, 0, none⟩ = some (.bool t3) ∧ w'.cell? ⟨w.heap.size + 1, 1, none⟩ = some (.slice B3 m3 d3) ∧ w'.cell? ⟨w.heap.size + 1, 2, none⟩ = some (.bool t4) ∧ w'.cell? ⟨w.heap.size + 1, 3, none⟩ = some (.slice B4 m4 d4)) [11, 12] (by kernel_rfl) rfl ?_
  refine goes_takeE (i := 0) (E := [1, 4, 9, 10, 11, 12]) (v := .pointer (some ⟨w.heap.size, 0, none⟩)) rfl (by kernel_rfl) rfl (fun _ _ _ h => h) (by intro w' hw'; obtain ⟨⟨z0, z1, z2, z3⟩, z4, z5, z6, z7⟩ := hw'; go_simp) HC.out ?_
  refine goes_takeE (i := 1) (E := [4, 9, 10, 11, 12]) (v := .agg #[.bool t1, .slice B1 m1 d1]) rfl (by kernel_rfl) rfl (fun _ _ _ h => h) (by intro w' hw'; obtain ⟨⟨z0, z1, z2, z3⟩, z4, z5, z6, z7⟩ := hw'; go_simp) HC.out ?_
  refine goes_takeE (i := 2) (E := [3, 4, 9, 10, 11, 12]) (v := .pointer (some ⟨w.heap.size + 1, 2, none⟩)) rfl (by kernel_rfl) rfl (fun _ _ _ h => h) (by intro w' hw'; obtain ⟨⟨z0, z1, z2, z3⟩, z4, z5, z6, z7⟩ := hw'; go_simp) HC.out ?_
  refine goes_takeE (i := 3) (E := [4, 9, 10, 11, 12]) (v := .agg #[.bool t4, .slice B4 m4 d4]) rfl (by kernel_rfl) rfl (fun _ _ _ h => h) (by intro w' hw'; obtain ⟨⟨z0, z1, z2, z3⟩, z4, z5, z6, z7⟩ := hw'; go_simp) HC.out ?_
  refine goes_takeE (i := 5) (E := [6, 9, 10, 11, 12]) (v := .pointer (some ⟨w.heap.size, 2, none⟩)) rfl (by kernel_rfl) rfl (fun _ _ _ h => h) (by intro w' hw'; obtain ⟨⟨z0, z1, z2, z3⟩, z4, z5, z6, z7⟩ := hw'; go_simp) HC.out ?_
  refine goes_takeE (i := 6) (E := [9, 10, 11, 12]) (v := .agg #[.bool t2, .slice B2 m2 d2]) rfl (by kernel_rfl) rfl (fun _ _ _ h => h) (by intro w' hw'; obtain ⟨⟨z0, z1, z2, z3⟩, z4, z5, z6, z7⟩ := hw'; go_simp) HC.out ?_
  refine goes_takeE (i := 7) (E := [8, 9, 10, 11, 12]) (v := .pointer (some ⟨w.heap.size + 1, 0, none⟩)) rfl (by kernel_rfl) rfl (fun _ _ _ h => h) (by intro w' hw'; obtain ⟨⟨z0, z1, z2, z3⟩, z4, z5, z6, z7⟩ := hw'; go_simp) HC.out ?_
  refine goes_takeE (i := 8) (E := [9, 10, 11, 12]) (v := .agg #[.bool t3, .slice B3 m3 d3]) rfl (by kernel_rfl) rfl (fun _ _ _ h => h) (by intro w' hw'; obtain ⟨⟨z0, z1, z2, z3⟩, z4, z5, z6, z7⟩ := hw'; go_simp) HC.out ?_
  refine goes_call (i := 4) rfl (by kernel_rfl) ?_
  go_wp2_with (go_at_call 19; go_loud (with_reducible refine (rprodH HPS.out.1 HQS.out.2 (Below.refl _ _).drew (Below.refl _ _).drew (by omega) (by omega)).mono ?_; rintro e wg ⟨hbg, g1, G1, l1, k1, rfl, hi⟩; have hbg := below_drw hbg; have HBG := Lib.hid (below_to HBS.out hbg HBS.out.size); have HXG := Lib.hid (HXS.out.below hbg HXS.out.lt); have HYG := Lib.hid (HYS.out.below hbg HYS.out.lt); have HZG := Lib.hid (HZS.out.below hbg HZS.out.lt); have HIG := Lib.hid hi; have HP2 := Lib.hid (HPS.out.2.later hbg); have HQ2 := Lib.hid (HQS.out.1.later hbg); clear hbg hi))
  refine behind_ok ⟨⟨HXG.out.four4, HYG.out.four4⟩, ?_⟩
  refine goes_call (i := 9) rfl (by kernel_rfl) ?_
  go_wp2_with (go_at_call 19; go_loud (with_reducible refine (rprodH HP2.out HQ2.out (Below.refl _ _) (Below.refl _ _) (by omega) (by omega)).mono ?_; rintro e wh ⟨hbh, g2, G2, l2, k2, rfl, hi⟩; have HBH := Lib.hid (below_to HBG.out hbh HBG.out.size); have HXH := Lib.hid (HXG.out.below hbh HXG.out.lt); have HYH := Lib.hid (HYG.out.below hbh HYG.out.lt); have HZH := Lib.hid (HZG.out.below hbh HZG.out.lt); have HIH := Lib.hid hi; have HIG2 := Lib.hid (HIG.out.later hbh); clear hbh hi))
  refine behind_ok ⟨⟨HXH.out.four4, HYH.out.four4⟩, ?_⟩
  refine goes_call (i := 10) rfl (by kernel_rfl) ?_
  have hden : (x.den : Int) * y.num ≠ 0 := Int.mul_ne_zero (by have := x.den_pos; omega) HN.out
  go_wp2_with (go_at_call 68; go_loud (with_reducible refine (roverH HIG2.out HIH.out (Below.refl _ _) (Below.refl _ _) (by omega) (by omega) hden).mono ?_; rintro e wf ⟨hbf, q1, C1, i1', e1, q2, C2, i2', e2, rfl, hr⟩; have HBF := Lib.hid (below_to HBH.out hbf HBH.out.size); have HXF := Lib.hid (HXH.out.below hbf HXH.out.lt); have HYF := Lib.hid (HYH.out.below hbf HYH.out.lt); have HZF := Lib.hid (HZH.out.below hbf HZH.out.lt); obtain ⟨r0, r1, r2, r3⟩ := HZF.out.four4; have fz0 := HZF.out.frozen 0; have fz1 := HZF.out.frozen 1; have fz2 := HZF.out.frozen 2; have fz3 := HZF.out.frozen 3; have HR := Lib.hid hr; clear hbf hr))
  refine behind_ok ⟨⟨HXF.out.four4, HYF.out.four4⟩, ?_⟩
  refine goes_last (i := 11) rfl (by kernel_rfl) (by kernel_rfl) ?_
  go_wp2_with fail
  refine behind_ok ?_
  refine goes_last (i := 12) rfl (by kernel_rfl) (by kernel_rfl) ?_
  go_wp2_with fail
  obtain ⟨V2, hV, hVb, hVk, hVr, -, -⟩ := stored_over HBF.out (show w.heap.size ≤ w.heap.size + 1 + 1 by omega) HZF.out HR.out
  rw [← hV]
  clear hV
  obtain ⟨y0, y1, y2, y3⟩ := hVk.four4
  have HVB2 := Lib.hid hVb
  have HVR2 := Lib.hid hVr
  clear hVb hVk hVr
  refine behind_ok (goes_done (by kernel_rfl) ?_)
  go_wp2
  refine bodyPost_ret (v := .tuple #[.agg #[.bool q1, .slice C1 i1' e1, .bool q2, .slice C2 i2' e2], .int .i64 0]) (by simp [results, Tryz.results39, go_sem, y0, y1, y2, y3]) rfl ?_
  have hr := HVR2.out
  rw [quo_parts] at hr
  exact ⟨HVB2.out, q1, C1, i1', e1, q2, C2, i2', e2, rfl, hr.tight HBD.out⟩
end

end Go.Proofs.YtjdfepchjeogcaaGreat

/- brief for two fractions. -/
namespace Go.Proofs.YtjdfepchjeogcaaGreat
open Go.RowKit

set_option maxRecDepth 100000 in
set_option maxHeartbeats 4000000 in
theorem brief2_any (s1 s2 s3 s4 : Bool) (A1 A2 A3 A4 : Option Addr) (n1 c1 n2 c2 n3 c3 n4 c4 g : Nat) (w : World) (h : Bk w g 41 #[.bool s1, .slice A1 n1 c1, .bool s2, .slice A2 n2 c2, .bool s3, .slice A3 n3 c3, .bool s4, .slice A4 n4 c4]) :
    Calls Tryz.prog 24 #[.slice (some ⟨g, 0, none⟩) 2 2] w fun e w' => w = w' ∧ e = .returned (.bool (decide (n1 ≤ 3) && decide (n2 ≤ 3) && decide (n3 ≤ 3) && decide (n4 ≤ 3))) := by
  have og := h.lt
  have e1 : w.cell? ⟨g, 1, none⟩ = some (.slice A1 n1 c1) := by simpa using h.cell 1
  have e2 : w.cell? ⟨g, 3, none⟩ = some (.slice A2 n2 c2) := by simpa using h.cell 3
  have e3 : w.cell? ⟨g, 5, none⟩ = some (.slice A3 n3 c3) := by simpa using h.cell 5
  have e4 : w.cell? ⟨g, 7, none⟩ = some (.slice A4 n4 c4) := by simpa using h.cell 7
  clear h
  by_cases q1 : n1 ≤ 3
  · have r1 : ¬ (3 : Int) < (n1 : Int) := by omega
    by_cases q2 : n2 ≤ 3
    · have r2 : ¬ (3 : Int) < (n2 : Int) := by omega
      by_cases q3 : n3 ≤ 3
      · have r3 : ¬ (3 : Int) < (n3 : Int) := by omega
        by_cases q4 : n4 ≤ 3
        · have r4 : ¬ (3 : Int) < (n4 : Int) := by omega
          (
              go_enter Tryz.func24, Tryz.ntmps24
              go_wp2
              refine wp_loop_rounds 3 ?_
              rw [rounds_succ]
              go_wp2
              all_goals (try (rw [rounds_succ]; go_wp2))
              all_goals (try (rw [rounds_succ]; go_wp2))
              go_ret
              exact ⟨rfl, ret_boolI (by simp [*] <;> omega)⟩)
        · have r4 : (3 : Int) < (n4 : Int) := by omega
          (
              go_enter Tryz.func24, Tryz.ntmps24
              go_wp2
              refine wp_loop_rounds 3 ?_
              rw [rounds_succ]
              go_wp2
              all_goals (try (rw [rounds_succ]; go_wp2))
              all_goals (try (rw [rounds_succ]; go_wp2))
              go_ret
              exact ⟨rfl, ret_boolI (by simp [*] <;> omega)⟩)
      · have r3 : (3 : Int) < (n3 : Int) := by omega
        (
            go_enter Tryz.func24, Tryz.ntmps24
            go_wp2
            refine wp_loop_rounds 3 ?_
            rw [rounds_succ]
            go_wp2
            all_goals (try (rw [rounds_succ]; go_wp2))
            all_goals (try (rw [rounds_succ]; go_wp2))
            go_ret
            exact ⟨rfl, ret_boolI (by simp [*] <;> omega)⟩)
    · have r2 : (3 : Int) < (n2 : Int) := by omega
      (
          go_enter Tryz.func24, Tryz.ntmps24
          go_wp2
          refine wp_loop_rounds 3 ?_
          rw [rounds_succ]
          go_wp2
          all_goals (try (rw [rounds_succ]; go_wp2))
          all_goals (try (rw [rounds_succ]; go_wp2))
          go_ret
          exact ⟨rfl, ret_boolI (by simp [*] <;> omega)⟩)
  · have r1 : (3 : Int) < (n1 : Int) := by omega
    (
        go_enter Tryz.func24, Tryz.ntmps24
        go_wp2
        refine wp_loop_rounds 3 ?_
        rw [rounds_succ]
        go_wp2
        all_goals (try (rw [rounds_succ]; go_wp2))
        all_goals (try (rw [rounds_succ]; go_wp2))
        go_ret
        exact ⟨rfl, ret_boolI (by simp [*] <;> omega)⟩)

end Go.Proofs.YtjdfepchjeogcaaGreat

/- The law's Whole and Ratio on exact's side. -/
namespace Go.Proofs.YtjdfepchjeogcaaGreat
open Go.RowKit

theorem ofEH (z : Int) (w : World) (h1 : -9223372036854775808 ≤ z) (h2 : z ≤ 9223372036854775807) : Calls Tryz.prog 12 #[.int .i64 z] w (MakesInt z 2 w) :=
  (of_any z w h1 h2).mono fun _ _ h => makes_of h (by rw [W_two]; omega)
theorem wholeH (n : Int) (w : World) (h1 : -9223372036854775808 ≤ n) (h2 : n ≤ 9223372036854775807) : Calls Tryz.prog 28 #[.int .i64 n] w (MakesRat (Rat.divInt n 1) 6 w) := by
  have hF : Rat.divInt n 1 = (n : Rat) := Rat.ext (by rw [Rat.num_divInt]; simp) (by rw [Rat.den_divInt]; simp)
  have hW : W 2 ≤ W 6 := W_mono (by omega)
  rw [W_two] at hW
  refine (whole_any n w h1 h2).mono fun e w' h => ?_
  rw [hF]
  exact makesR_of h (by rw [Rat.num_intCast]; omega) (by rw [Rat.den_intCast]; omega)
section
set_option maxRecDepth 100000 in
set_option maxHeartbeats 8000000 in
theorem ratioH (n d : Int) (w : World) (h1 : -9223372036854775808 ≤ n) (h2 : n ≤ 9223372036854775807) (h3 : -9223372036854775808 ≤ d) (h4 : d ≤ 9223372036854775807) (h0 : d ≠ 0) :
    Calls Tryz.prog 25 #[.int .i64 n, .int .i64 d] w fun e w' => Below w.heap.size w w' ∧ ∃ s1 A1 n1 c1 s2 A2 n2 c2, e = .returned (.tuple #[.agg #[.bool s1, .slice A1 n1 c1, .bool s2, .slice A2 n2 c2], .int .i64 0]) ∧ RatH w' s1 A1 n1 c1 s2 A2 n2 c2 (Rat.divInt n d) 6 true := by
  have hdb : (d == 0) = false := by simpa using h0
  go_enter Tryz.func25, Tryz.ntmps25
  go_wp2_with (first
    | (go_at_call 12; go_loud (with_reducible refine (ofEH n _ h1 h2).mono ?_; rintro e wa ⟨hba, sa, Aa, na, ca, rfl, ia⟩; have HBA : Hid (Below w.heap.size w wa) := Lib.hid (by repeat (first | with_reducible exact Below.refl _ _ | with_reducible assumption | with_reducible refine Below.drew ?_ | with_reducible refine Below.drewN ?_ _ | with_reducible refine Below.alloc2 ?_ _ | with_reducible refine Below.alloc ?_ (by first | omega | (simp <;> omega)) _ | with_reducible refine Below.setCell ?_ (by first | omega | (simp <;> omega)) _ | with_reducible refine Below.step2 (by with_reducible assumption) ?_ | with_reducible refine Below.step (by with_reducible assumption) ?_ (by first | omega | (simp <;> omega)))); have HKA : Hid (Bk wa w.heap.size 41 #[.bool false, .slice none 0 0, .bool false, .slice none 0 0]) := Lib.hid (by repeat (first | with_reducible assumption | with_reducible exact Bk.at_ (by first | (simp; done) | omega) | with_reducible refine Bk.alloc ?_ _ | with_reducible refine Bk.drew ?_ | with_reducible refine Bk.drewN ?_ _ | with_reducible refine Bk.step (by with_reducible assumption) ?_ (by first | omega | (simp <;> omega)))); have HIA := Lib.hid ia; clear hba ia))
    | (go_at_call 12; go_loud (with_reducible refine (ofEH d _ h3 h4).mono ?_; rintro e wb ⟨hbb, sb, Ab, nb, cb, rfl, ib⟩; have HBB := Lib.hid (below_to HBA.out hbb HBA.out.size); have HIB := Lib.hid ib; have HIA2 := Lib.hid (HIA.out.later hbb); have HKB := Lib.hid (HKA.out.below hbb HKA.out.lt); clear hbb ib))
    | (go_at_call 67; go_loud (with_reducible refine (fractionH0 HIA2.out HIB.out (Below.refl _ _) (Below.refl _ _) (by omega) (by omega) h0).mono ?_; rintro e wf ⟨hbf, t1, B1, m1, d1, t2, B2, m2, d2, rfl, hr⟩; have hk2 := HKB.out.below hbf HKB.out.lt; obtain ⟨r0, r1, r2, r3⟩ := hk2.four4; have f0 := hk2.frozen 0; have f1 := hk2.frozen 1; have f2 := hk2.frozen 2; have f3 := hk2.frozen 3; have HK2 := Lib.hid (And.intro True.intro (And.intro hk2 (below_to HBB.out hbf HBB.out.size))); have HR := Lib.hid hr; clear hbf hk2 hr)))
  obtain ⟨V, hV, hVb, hVk, hVr⟩ := stored_rat HK2.out.2.2 (Nat.le_refl _) HK2.out.2.1 (HR.out.wide (show 2 + 2 ≤ 6 by omega))
  rw [← hV]
  clear hV
  obtain ⟨y0, y1, y2, y3⟩ := hVk.four4
  refine bodyPost_ret (v := .tuple #[.agg #[.bool t1, .slice B1 m1 d1, .bool t2, .slice B2 m2 d2], .int .i64 0]) (by simp [results, Tryz.results25, go_sem, y0, y1, y2, y3]) rfl ?_
  exact ⟨hVb, t1, B1, m1, d1, t2, B2, m2, d2, rfl, hVr⟩
set_option maxRecDepth 100000 in
set_option maxHeartbeats 8000000 in
theorem ratioH0 (n : Int) (w : World) :
    Calls Tryz.prog 25 #[.int .i64 n, .int .i64 0] w fun e w' => Below w.heap.size w w' ∧ e = .returned (.tuple #[.agg #[.bool false, .slice none 0 0, .bool false, .slice none 0 0], .int .i64 9]) := by
  go_enter Tryz.func25, Tryz.ntmps25
  go_wp2
  have k := Bk.alloc_ w 41 #[.bool false, .slice none 0 0, .bool false, .slice none 0 0]
  obtain ⟨y0, y1, y2, y3⟩ := k.four4
  refine bodyPost_ret (v := .tuple #[.agg #[.bool false, .slice none 0 0, .bool false, .slice none 0 0], .int .i64 9]) (by simp [results, Tryz.results25, go_sem, y0, y1, y2, y3]) rfl ⟨(by repeat (first | with_reducible exact Below.refl _ _ | with_reducible assumption | with_reducible refine Below.drew ?_ | with_reducible refine Below.drewN ?_ _ | with_reducible refine Below.alloc2 ?_ _ | with_reducible refine Below.alloc ?_ (by first | omega | (simp <;> omega)) _ | with_reducible refine Below.setCell ?_ (by first | omega | (simp <;> omega)) _ | with_reducible refine Below.step2 (by with_reducible assumption) ?_ | with_reducible refine Below.step (by with_reducible assumption) ?_ (by first | omega | (simp <;> omega)))), rfl⟩
end

end Go.Proofs.YtjdfepchjeogcaaGreat
