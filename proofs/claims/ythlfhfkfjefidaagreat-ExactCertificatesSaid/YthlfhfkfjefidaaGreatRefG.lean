/- Several texts in one. -/
import Derived.Test.YthlfhfkfjefidaaGreatRefF
import Derived.Test.YthlfhfkfjefidaaGreatRefB
/- The reference's Neg. -/
namespace Go.Proofs.YthlfhfkfjefidaaGreat
open Go.RowKit
theorem neg_parts (x : Rat) : Rat.divInt (-x.num) (x.den : Int) = -x := by
 rw [← Rat.neg_divInt, Rat.num_divInt_den]
section
variable {w w1 : World} {s1 s2 : Bool} {A1 A2 : Option Addr} {n1 c1 n2 c2 : Nat} {x : Rat} {K : Nat} {nf : Bool}
set_option maxRecDepth 100000 in
set_option maxHeartbeats 8000000 in
theorem rnegH (h : RatH w1 s1 A1 n1 c1 s2 A2 n2 c2 x K nf) (b1 : Below w1.heap.size w1 w) (hk : K ≤ 88) (h0 : 0 < K) :
 Calls Tryz.prog 76 #[.agg #[.bool s1, .slice A1 n1 c1, .bool s2, .slice A2 n2 c2]] w (MakesRat (-x) K w) := by
 have HBD := Lib.hid (h.bds h0)
 go_enter Tryz.func76, Tryz.ntmps76
 go_upto_region 1 with fail
 obtain ⟨W, hW⟩ : ∃ W, W = ((w.alloc (.cells #[.bool s1, .slice A1 n1 c1, .bool s2, .slice A2 n2 c2] 41)).alloc (.cells #[.bool false, .slice none 0 0, .bool false, .slice none 0 0] 41)) := ⟨_, rfl⟩
 have hbW : Below w.heap.size w W := by rw [hW]; exact bl
 have kx : Bk W w.heap.size 41 #[.bool s1, .slice A1 n1 c1, .bool s2, .slice A2 n2 c2] := by rw [hW]; exact bk
 have kz : Bk W (w.heap.size + 1) 41 #[.bool false, .slice none 0 0, .bool false, .slice none 0 0] := by rw [hW]; exact bk
 rw [← hW]
 clear hW
 obtain ⟨a0, a1, a2, a3⟩ := kx.four4
 have HBW := Lib.hid hbW
 have HKX := Lib.hid kx
 have HKZ := Lib.hid kz
 clear kx kz hbW
 go_upto_region 2 with (go_at_call 31; go_loud (with_reducible refine (rnormT h (below_to b1 HBW.out b1.size) hk h0).mono ?_; rintro e wn ⟨hbn, t1, B1, m1, d1, t2, B2, m2, d2, rfl, hr⟩; have HBN := Lib.hid (below_to HBW.out hbn HBW.out.size); have hkx := HKX.out.below hbn HKX.out.lt; have f0 := hkx.frozen 0; have f1 := hkx.frozen 1; have f2 := hkx.frozen 2; have f3 := hkx.frozen 3; obtain ⟨r0, r1, r2, r3⟩ := hkx.four4; have HKN := Lib.hid hkx; have HZN := Lib.hid (HKZ.out.below hbn HKZ.out.lt); have HRN := Lib.hid hr; clear hbn hkx hr))
 obtain ⟨V, hV, hVb, hVk, hVr, hVo, -⟩ := stored_over HBN.out (Nat.le_refl _) HKN.out HRN.out
 rw [← hV]
 clear hV a0 a1 a2 a3 r0 r1 r2 r3 f0 f1 f2 f3
 have HVB := Lib.hid hVb
 have HVZ := Lib.hid (hVo _ _ _ (by omega) HZN.out)
 have HVP := Lib.hid hVr.parts2
 obtain ⟨u0, u1, u2, u3⟩ := hVk.four4
 have HVK := Lib.hid hVk
 clear hVb hVk hVr hVo
 refine region_goes (n := 7) (fun w' => (w'.cell? ⟨w.heap.size, 0, none⟩ = some (.bool t1) ∧ w'.cell? ⟨w.heap.size, 1, none⟩ = some (.slice B1 m1 d1)) ∧ w'.cell? ⟨w.heap.size, 2, none⟩ = some (.bool t2) ∧ w'.cell? ⟨w.heap.size, 3, none⟩ = some (.slice B2 m2 d2)) [6] (by kernel_rfl) rfl ?_
 refine goes_takeE (i := 0) (E := [1, 2, 5, 6]) (v := .pointer (some ⟨w.heap.size, 0, none⟩)) rfl (by kernel_rfl) rfl (fun _ _ _ h => h) (by intro w' hw'; go_simp) ⟨⟨u0, u1⟩, u2, u3⟩ ?_
 refine goes_takeE (i := 1) (E := [2, 5, 6]) (v := .agg #[.bool t1, .slice B1 m1 d1]) rfl (by kernel_rfl) rfl (fun _ _ _ h => h) (by intro w' hw'; obtain ⟨⟨z0, z1⟩, z2, z3⟩ := hw'; go_simp) ⟨⟨u0, u1⟩, u2, u3⟩ ?_
 refine goes_takeE (i := 3) (E := [4, 5, 6]) (v := .pointer (some ⟨w.heap.size, 2, none⟩)) rfl (by kernel_rfl) rfl (fun _ _ _ h => h) (by intro w' hw'; go_simp) ⟨⟨u0, u1⟩, u2, u3⟩ ?_
 refine goes_takeE (i := 4) (E := [5, 6]) (v := .agg #[.bool t2, .slice B2 m2 d2]) rfl (by kernel_rfl) rfl (fun _ _ _ h => h) (by intro w' hw'; obtain ⟨⟨z0, z1⟩, z2, z3⟩ := hw'; go_simp) ⟨⟨u0, u1⟩, u2, u3⟩ ?_
 refine goes_call (i := 2) rfl (by kernel_rfl) ?_
 go_wp2_with (go_at_call 65; go_loud (with_reducible refine (rminusH HVP.out.1 (Below.refl _ _).drew (by omega)).mono ?_; rintro e wa ⟨hba, sa, Aa, na, ca, rfl, ia⟩; have HBA := Lib.hid (below_to HVB.out (below_drw hba) HVB.out.size); have hka := HVK.out.below (below_drw hba) HVK.out.lt; obtain ⟨v0, v1, v2, v3⟩ := hka.four4; have HZA := Lib.hid (HVZ.out.below (below_drw hba) HVZ.out.lt); have HIA := Lib.hid ia; have HIB := Lib.hid (HVP.out.2.later (below_drw hba)); have HKA := Lib.hid hka; clear hba hka ia))
 refine behind_ok ⟨⟨⟨v0, v1⟩, v2, v3⟩, ?_⟩
 refine goes_call (i := 5) rfl (by kernel_rfl) ?_
 have hden : (x.den : Int) ≠ 0 := by have := x.den_pos; omega
 go_wp2_with (go_at_call 72; go_loud (with_reducible refine (roverH HIA.out HIB.out (Below.refl _ _) (Below.refl _ _) (by omega) (by omega) hden).mono ?_; rintro e wf ⟨hbf, q1, C1, i1, e1, q2, C2, i2, e2, rfl, hr⟩; have hBf := below_to HBA.out hbf HBA.out.size; have hk1 := HKA.out.below hbf HKA.out.lt; obtain ⟨z0, z1, z2, z3⟩ := hk1.four4; have hk2 := HZA.out.below hbf HZA.out.lt; obtain ⟨r0, r1, r2, r3⟩ := hk2.four4; have f0 := hk2.frozen 0; have f1 := hk2.frozen 1; have f2 := hk2.frozen 2; have f3 := hk2.frozen 3; have HK2 := Lib.hid hk2; have HBF := Lib.hid hBf; have HR := Lib.hid hr; clear hbf hBf hk1 hk2 hr))
 refine behind_ok ⟨⟨⟨z0, z1⟩, z2, z3⟩, ?_⟩
 refine goes_last (i := 6) rfl (by kernel_rfl) (by kernel_rfl) ?_
 go_wp2_with fail
 obtain ⟨V2, hV, hVb, hVk, hVr, -, -⟩ := stored_over HBF.out (Nat.le_succ _) HK2.out HR.out
 rw [← hV]
 clear hV
 obtain ⟨y0, y1, y2, y3⟩ := hVk.four4
 have HVB2 := Lib.hid hVb
 have HVR2 := Lib.hid hVr
 clear hVb hVk hVr
 refine behind_ok (goes_done (by kernel_rfl) ?_)
 go_wp2
 refine bodyPost_ret (v := .agg #[.bool q1, .slice C1 i1 e1, .bool q2, .slice C2 i2 e2]) (by simp [results, Tryz.results76, go_sem, y0, y1, y2, y3]) rfl ?_
 have hr := HVR2.out
 rw [neg_parts] at hr
 exact MakesRat.tight ⟨HVB2.out, q1, C1, i1, e1, q2, C2, i2, e2, rfl, hr⟩ (by rw [Rat.neg_num, Int.natAbs_neg]; exact HBD.out.1) (by rw [Rat.neg_den]; exact HBD.out.2)
end
end Go.Proofs.YthlfhfkfjefidaaGreat
/- The reference's Mul. -/
namespace Go.Proofs.YthlfhfkfjefidaaGreat
open Go.RowKit
theorem quick_frac {p q a b : Int} (h : a = p ∧ b = (if q = 0 then 1 else q)) : frac p q = Rat.divInt a b := by
 obtain ⟨rfl, rfl⟩ := h
 unfold frac
 split <;> rfl
theorem mul_bq {a b : Int} (ha : a.natAbs < 1073741824) (hb : b.natAbs < 1073741824) : -1152921504606846976 ≤ a * b ∧ a * b ≤ 1152921504606846976 ∧ (a * b).natAbs ≤ 1152921504606846976 := by
 have h : (a * b).natAbs ≤ 1073741824 * 1073741824 := by rw [Int.natAbs_mul]; exact Nat.mul_le_mul (by omega) (by omega)
 omega
theorem mul_bds {x y : Rat} {K1 K2 : Nat} (hx : x.num.natAbs < W K1 ∧ x.den < W K1) (hy : y.num.natAbs < W K2 ∧ y.den < W K2) : (x * y).num.natAbs < W (K1 + K2) ∧ (x * y).den < W (K1 + K2) := by
 have e : x * y = Rat.divInt (x.num * y.num) ((x.den : Int) * y.den) := by
  rw [← Rat.divInt_mul_divInt, Rat.num_divInt_den, Rat.num_divInt_den]
 have hd : (x.den : Int) * y.den ≠ 0 := Int.mul_ne_zero (by have := x.den_pos; omega) (by have := y.den_pos; omega)
 have hb := divInt_bd2 (p := x.num * y.num) hd
 rw [← e, Int.natAbs_mul, Int.natAbs_mul] at hb
 rw [W_add]
 exact ⟨Nat.lt_of_le_of_lt hb.1 (Nat.mul_lt_mul_of_lt_of_lt hx.1 hy.1), Nat.lt_of_le_of_lt hb.2 (Nat.mul_lt_mul_of_lt_of_lt hx.2 hy.2)⟩
theorem mul_parts (x y : Rat) : Rat.divInt (x.num * y.num) ((x.den : Int) * y.den) = x * y := by
 rw [← Rat.divInt_mul_divInt, Rat.num_divInt_den, Rat.num_divInt_den]
/- Three blocks of a world: HBW, HKX, HKY, HKZ about %1. -/
section
variable {w w1 w2 : World} {s1 s2 s3 s4 : Bool} {A1 A2 A3 A4 : Option Addr} {n1 c1 n2 c2 n3 c3 n4 c4 : Nat} {x y : Rat} {K1 K2 : Nat} {f1 f2 : Bool}
set_option maxRecDepth 100000 in
set_option maxHeartbeats 8000000 in
theorem rmulH (h1 : RatH w1 s1 A1 n1 c1 s2 A2 n2 c2 x K1 f1) (h2 : RatH w2 s3 A3 n3 c3 s4 A4 n4 c4 y K2 f2) (b1 : Below w1.heap.size w1 w) (b2 : Below w2.heap.size w2 w) (hk1 : 0 < K1) (hk2 : 0 < K2) (hk : K1 + K2 ≤ 88) :
 Calls Tryz.prog 37 #[.agg #[.bool s1, .slice A1 n1 c1, .bool s2, .slice A2 n2 c2], .agg #[.bool s3, .slice A3 n3 c3, .bool s4, .slice A4 n4 c4]] w (MakesRat (x * y) (K1 + K2) w) := by
 obtain ⟨p, q, i1, i2, hx⟩ := h1.raw
 obtain ⟨r, s, j1, j2, hy⟩ := h2.raw
 have HX := Lib.hid hx
 have HY := Lib.hid hy
 clear hx hy
 have HBD := Lib.hid (mul_bds (h1.bds hk1) (h2.bds hk2))
 go_enter Tryz.func37, Tryz.ntmps37
 go_upto_region 1 with fail
 obtain ⟨W, hW⟩ : ∃ W, W = (((w.alloc (.cells #[.bool s1, .slice A1 n1 c1, .bool s2, .slice A2 n2 c2] 41)).alloc (.cells #[.bool s3, .slice A3 n3 c3, .bool s4, .slice A4 n4 c4] 41)).alloc (.cells #[.bool false, .slice none 0 0, .bool false, .slice none 0 0] 41)) := ⟨_, rfl⟩
 have HBW : Hid (Below w.heap.size w W) := Lib.hid (by rw [hW]; exact bl)
 have HXW : Hid (Bk W w.heap.size 41 #[.bool s1, .slice A1 n1 c1, .bool s2, .slice A2 n2 c2]) := Lib.hid (by rw [hW]; exact bk)
 have HYW : Hid (Bk W (w.heap.size + 1) 41 #[.bool s3, .slice A3 n3 c3, .bool s4, .slice A4 n4 c4]) := Lib.hid (by rw [hW]; exact bk)
 have HZW : Hid (Bk W (w.heap.size + 1 + 1) 41 #[.bool false, .slice none 0 0, .bool false, .slice none 0 0]) := Lib.hid (by rw [hW]; exact bk)
 rw [← hW]
 clear hW
 obtain ⟨a0, a1, a2, a3⟩ := HXW.out.four4
 go_upto_region 3 with (first
  | (go_at_call 74; with_reducible refine (rquickH i1 i2 (below_to b1 HBW.out b1.size) (below_to b1 HBW.out b1.size)).mono ?_; rintro e wa hq; obtain ⟨hba, qa, qb, ok1, rfl, ha, hb, hb0, hok⟩ := hq.out; have HBA := Lib.hid (below_to HBW.out hba HBW.out.size); have HXA := Lib.hid (HXW.out.below hba HXW.out.lt); have HYA := Lib.hid (HYW.out.below hba HYW.out.lt); have HZA := Lib.hid (HZW.out.below hba HZW.out.lt); obtain ⟨a4, a5, a6, a7⟩ := HYA.out.four4; have HQA := Lib.hid (And.intro ha (And.intro hb (And.intro hb0 hok))); clear hq hba ha hb hb0 hok)
  | (go_at_call 74; go_loud (with_reducible refine (rquickH j1 j2 (below_to b2 HBA.out b2.size) (below_to b2 HBA.out b2.size)).mono ?_; rintro e wb hq; obtain ⟨hbb, qc, qd, ok2, rfl, ha, hb, hb0, hok⟩ := hq.out; have HBB := Lib.hid (below_to HBA.out hbb HBA.out.size); have HXB := Lib.hid (HXA.out.below hbb HXA.out.lt); have HYB := Lib.hid (HYA.out.below hbb HYA.out.lt); have HZB := Lib.hid (HZA.out.below hbb HZA.out.lt); have HQB := Lib.hid (And.intro ha (And.intro hb (And.intro hb0 hok))); clear hq hbb ha hb hb0 hok)))
 clear a0 a1 a2 a3 a4 a5 a6 a7
 cases ok1 <;> cases ok2
 rotate_left 3
 · obtain ⟨ha, hb, hb0, hok⟩ := HQA.out
   obtain ⟨hc, hd, hd0, hok2⟩ := HQB.out
   obtain ⟨u1, u2, u3⟩ := mul_bq ha hc
   obtain ⟨v1, v2, v3⟩ := mul_bq hb hd
   have hne : qb * qd ≠ 0 := Int.mul_ne_zero hb0 hd0
   have HE : Hid (Rat.divInt (qa * qc) (qb * qd) = x * y) := Lib.hid (by rw [HX.out, HY.out, quick_frac (hok rfl), quick_frac (hok2 rfl)]; exact (Rat.divInt_mul_divInt _ _).symm)
   clear hok hok2 HQA HQB ha hb hb0 hc hd hd0
   clear h1 h2
   go_wp2_with (go_at_call 75; go_loud (with_reducible refine (lowest_any (qa * qc) (qb * qd) _ (by omega) (by omega) hne).mono ?_; rintro e wf ⟨hbf, q1, C1, i1', e1, q2, C2, i2', e2, rfl, hr⟩; have HBF := Lib.hid (below_to HBB.out hbf HBB.out.size); have HXF := Lib.hid (HXB.out.below hbf HXB.out.lt); have HYF := Lib.hid (HYB.out.below hbf HYB.out.lt); have HZF := Lib.hid (HZB.out.below hbf HZB.out.lt); obtain ⟨r0, r1, r2, r3⟩ := HZF.out.four4; have fz0 := HZF.out.frozen 0; have fz1 := HZF.out.frozen 1; have fz2 := HZF.out.frozen 2; have fz3 := HZF.out.frozen 3; have HR := Lib.hid hr; clear hbf hr))
   obtain ⟨V2, hV, hVb, hVk, hVr, -, -⟩ := stored_over HBF.out (show w.heap.size ≤ w.heap.size + 1 + 1 by omega) HZF.out HR.out
   rw [← hV]
   clear hV
   obtain ⟨y0, y1, y2, y3⟩ := hVk.four4
   have HVB2 := Lib.hid hVb
   have HVR2 := Lib.hid hVr
   clear hVb hVk hVr
   skip
   refine bodyPost_ret (v := .agg #[.bool q1, .slice C1 i1' e1, .bool q2, .slice C2 i2' e2]) (by simp [results, Tryz.results37, go_sem, y0, y1, y2, y3]) rfl ?_
   have hr := HVR2.out
   rw [HE.out] at hr
   exact MakesRat.tight ⟨HVB2.out, q1, C1, i1', e1, q2, C2, i2', e2, rfl, hr⟩ HBD.out.1 HBD.out.2
 all_goals
  clear HQA HQB HX HY i1 i2 j1 j2
  go_upto_region 5 with fail
  have HC : Hid ((fun w' : World => (w'.cell? ⟨w.heap.size, 0, none⟩ = some (.bool s1) ∧ w'.cell? ⟨w.heap.size, 1, none⟩ = some (.slice A1 n1 c1) ∧ w'.cell? ⟨w.heap.size, 2, none⟩ = some (.bool s2) ∧ w'.cell? ⟨w.heap.size, 3, none⟩ = some (.slice A2 n2 c2)) ∧ w'.cell? ⟨w.heap.size + 1, 0, none⟩ = some (.bool s3) ∧ w'.cell? ⟨w.heap.size + 1, 1, none⟩ = some (.slice A3 n3 c3) ∧ w'.cell? ⟨w.heap.size + 1, 2, none⟩ = some (.bool s4) ∧ w'.cell? ⟨w.heap.size + 1, 3, none⟩ = some (.slice A4 n4 c4)) wb) := Lib.hid ⟨HXB.out.four4, HYB.out.four4⟩
  refine region_goes (n := 6) (fun w' => (w'.cell? ⟨w.heap.size, 0, none⟩ = some (.bool s1) ∧ w'.cell? ⟨w.heap.size, 1, none⟩ = some (.slice A1 n1 c1) ∧ w'.cell? ⟨w.heap.size, 2, none⟩ = some (.bool s2) ∧ w'.cell? ⟨w.heap.size, 3, none⟩ = some (.slice A2 n2 c2)) ∧ w'.cell? ⟨w.heap.size + 1, 0, none⟩ = some (.bool s3) ∧ w'.cell? ⟨w.heap.size + 1, 1, none⟩ = some (.slice A3 n3 c3) ∧ w'.cell? ⟨w.heap.size + 1, 2, none⟩ = some (.bool s4) ∧ w'.cell? ⟨w.heap.size + 1, 3, none⟩ = some (.slice A4 n4 c4)) [4, 5] (by kernel_rfl) rfl ?_
  refine goes_takeE (i := 0) (E := [1, 3, 4, 5]) (v := .agg #[.bool s1, .slice A1 n1 c1, .bool s2, .slice A2 n2 c2]) rfl (by kernel_rfl) rfl (fun _ _ _ h => h) (by intro w' hw'; obtain ⟨⟨z0, z1, z2, z3⟩, z4, z5, z6, z7⟩ := hw'; go_simp) HC.out ?_
  refine goes_takeE (i := 2) (E := [3, 4, 5]) (v := .agg #[.bool s3, .slice A3 n3 c3, .bool s4, .slice A4 n4 c4]) rfl (by kernel_rfl) rfl (fun _ _ _ h => h) (by intro w' hw'; obtain ⟨⟨z0, z1, z2, z3⟩, z4, z5, z6, z7⟩ := hw'; go_simp) HC.out ?_
  refine goes_call (i := 1) rfl (by kernel_rfl) ?_
  go_wp2_with (go_at_call 31; go_loud (with_reducible refine (rnormT h1 (below_to b1 HBB.out b1.size).drew (by omega) hk1).mono ?_; rintro e wm ⟨hbm, t1, B1, m1, d1, t2, B2, m2, d2, rfl, hr⟩; have hbm := below_drw hbm; have HBM := Lib.hid (below_to HBB.out hbm HBB.out.size); have HXM := Lib.hid (HXB.out.below hbm HXB.out.lt); have HYM := Lib.hid (HYB.out.below hbm HYB.out.lt); have HZM := Lib.hid (HZB.out.below hbm HZB.out.lt); have HRM := Lib.hid hr; clear hbm hr))
  refine behind_ok ⟨⟨HXM.out.four4, HYM.out.four4⟩, ?_⟩
  refine goes_call (i := 3) rfl (by kernel_rfl) ?_
  go_wp2_with (go_at_call 31; go_loud (with_reducible refine (rnormT h2 (below_to b2 HBM.out b2.size) (by omega) hk2).mono ?_; rintro e wn ⟨hbn, t3, B3, m3, d3, t4, B4, m4, d4, rfl, hr⟩; have HBN := Lib.hid (below_to HBM.out hbn HBM.out.size); have HXN := Lib.hid (HXM.out.below hbn HXM.out.lt); have HYN := Lib.hid (HYM.out.below hbn HYM.out.lt); have HZN := Lib.hid (HZM.out.below hbn HZM.out.lt); have HRN := Lib.hid hr; have HRM2 := Lib.hid (HRM.out.later hbn); obtain ⟨x0, x1, x2, x3⟩ := HXN.out.four4; obtain ⟨x4, x5, x6, x7⟩ := HYN.out.four4; have g0 := HXN.out.frozen 0; have g1 := HXN.out.frozen 1; have g2 := HXN.out.frozen 2; have g3 := HXN.out.frozen 3; have g4 := HYN.out.frozen 0; have g5 := HYN.out.frozen 1; have g6 := HYN.out.frozen 2; have g7 := HYN.out.frozen 3; clear hbn hr))
  refine behind_ok ⟨⟨HXN.out.four4, HYN.out.four4⟩, ?_⟩
  refine goes_last (i := 4) rfl (by kernel_rfl) (by kernel_rfl) ?_
  go_wp2_with fail
  obtain ⟨V, hV, hVb, hVk, hVr, hVo, hVs⟩ := stored_over HBN.out (Nat.le_refl _) HXN.out HRM2.out
  rw [← hV]
  refine behind_ok ?_
  have HVY := Lib.hid (hVo _ _ _ (show w.heap.size + 1 ≠ w.heap.size by omega) HYN.out)
  have HVZ := Lib.hid (hVo _ _ _ (show w.heap.size + 1 + 1 ≠ w.heap.size by omega) HZN.out)
  have HVN := Lib.hid (HRN.out.stored HXN.out (fun p hp => by rw [hV]; exact set_four (o1 := 0) (o2 := 1) (o3 := 2) (o4 := 3) _ _ _ _ p hp) hVs)
  clear hV g4 g5 g6 g7 x4 x5 x6 x7
  obtain ⟨x4, x5, x6, x7⟩ := HVY.out.four4
  have g4 := HVY.out.frozen 0
  have g5 := HVY.out.frozen 1
  have g6 := HVY.out.frozen 2
  have g7 := HVY.out.frozen 3
  have HVB := Lib.hid hVb
  have HVK := Lib.hid hVk
  have HVR := Lib.hid hVr
  clear hVb hVk hVr hVo hVs HC
  refine goes_last (i := 5) rfl (by kernel_rfl) (by kernel_rfl) ?_
  go_wp2_with fail
  obtain ⟨U, hU, hUb, hUk, hUr, hUo, hUs⟩ := stored_over HVB.out (show w.heap.size ≤ w.heap.size + 1 by omega) HVY.out HVN.out
  rw [← hU]
  refine behind_ok (goes_done (by kernel_rfl) ?_)
  have HUX := Lib.hid (hUo _ _ _ (show w.heap.size ≠ w.heap.size + 1 by omega) HVK.out)
  have HUZ := Lib.hid (hUo _ _ _ (show w.heap.size + 1 + 1 ≠ w.heap.size + 1 by omega) HVZ.out)
  have HUP := Lib.hid (HVR.out.stored HVY.out (fun p hp => by rw [hU]; exact set_four (o1 := 0) (o2 := 1) (o3 := 2) (o4 := 3) _ _ _ _ p hp) hUs).parts2
  have HUQ := Lib.hid hUr.parts2
  have HUY := Lib.hid hUk
  have HUB := Lib.hid hUb
  clear hU hUb hUk hUr hUo hUs g0 g1 g2 g3 g4 g5 g6 g7 x0 x1 x2 x3 x4 x5 x6 x7
  clear HBW HXW HYW HZW HBA HXA HYA HZA HBM HXM HYM HZM HRM HBN HXN HYN HZN HRN HRM2 HVB HVK HVR HVY HVZ HVN
  go_upto_region 6 with fail
  have HC : Hid ((fun w' : World => (w'.cell? ⟨w.heap.size, 0, none⟩ = some (.bool t1) ∧ w'.cell? ⟨w.heap.size, 1, none⟩ = some (.slice B1 m1 d1) ∧ w'.cell? ⟨w.heap.size, 2, none⟩ = some (.bool t2) ∧ w'.cell? ⟨w.heap.size, 3, none⟩ = some (.slice B2 m2 d2)) ∧ w'.cell? ⟨w.heap.size + 1, 0, none⟩ = some (.bool t3) ∧ w'.cell? ⟨w.heap.size + 1, 1, none⟩ = some (.slice B3 m3 d3) ∧ w'.cell? ⟨w.heap.size + 1, 2, none⟩ = some (.bool t4) ∧ w'.cell? ⟨w.heap.size + 1, 3, none⟩ = some (.slice B4 m4 d4)) U) := Lib.hid ⟨HUX.out.four4, HUY.out.four4⟩
  refine region_goes (n := 12) (fun w' => (w'.cell? ⟨w.heap.size, 0, none⟩ = some (.bool t1) ∧ w'.cell? ⟨w.heap.size, 1, none⟩ = some (.slice B1 m1 d1) ∧ w'.cell? ⟨w.heap.size, 2, none⟩ = some (.bool t2) ∧ w'.cell? ⟨w.heap.size, 3, none⟩ = some (.slice B2 m2 d2)) ∧ w'.cell? ⟨w.heap.size + 1, 0, none⟩ = some (.bool t3) ∧ w'.cell? ⟨w.heap.size + 1, 1, none⟩ = some (.slice B3 m3 d3) ∧ w'.cell? ⟨w.heap.size + 1, 2, none⟩ = some (.bool t4) ∧ w'.cell? ⟨w.heap.size + 1, 3, none⟩ = some (.slice B4 m4 d4)) [11] (by kernel_rfl) rfl ?_
  refine goes_takeE (i := 0) (E := [1, 4, 9, 10, 11]) (v := .pointer (some ⟨w.heap.size, 0, none⟩)) rfl (by kernel_rfl) rfl (fun _ _ _ h => h) (by intro w' hw'; obtain ⟨⟨z0, z1, z2, z3⟩, z4, z5, z6, z7⟩ := hw'; go_simp) HC.out ?_
  refine goes_takeE (i := 1) (E := [4, 9, 10, 11]) (v := .agg #[.bool t1, .slice B1 m1 d1]) rfl (by kernel_rfl) rfl (fun _ _ _ h => h) (by intro w' hw'; obtain ⟨⟨z0, z1, z2, z3⟩, z4, z5, z6, z7⟩ := hw'; go_simp) HC.out ?_
  refine goes_takeE (i := 2) (E := [3, 4, 9, 10, 11]) (v := .pointer (some ⟨w.heap.size + 1, 0, none⟩)) rfl (by kernel_rfl) rfl (fun _ _ _ h => h) (by intro w' hw'; obtain ⟨⟨z0, z1, z2, z3⟩, z4, z5, z6, z7⟩ := hw'; go_simp) HC.out ?_
  refine goes_takeE (i := 3) (E := [4, 9, 10, 11]) (v := .agg #[.bool t3, .slice B3 m3 d3]) rfl (by kernel_rfl) rfl (fun _ _ _ h => h) (by intro w' hw'; obtain ⟨⟨z0, z1, z2, z3⟩, z4, z5, z6, z7⟩ := hw'; go_simp) HC.out ?_
  refine goes_takeE (i := 5) (E := [6, 9, 10, 11]) (v := .pointer (some ⟨w.heap.size, 2, none⟩)) rfl (by kernel_rfl) rfl (fun _ _ _ h => h) (by intro w' hw'; obtain ⟨⟨z0, z1, z2, z3⟩, z4, z5, z6, z7⟩ := hw'; go_simp) HC.out ?_
  refine goes_takeE (i := 6) (E := [9, 10, 11]) (v := .agg #[.bool t2, .slice B2 m2 d2]) rfl (by kernel_rfl) rfl (fun _ _ _ h => h) (by intro w' hw'; obtain ⟨⟨z0, z1, z2, z3⟩, z4, z5, z6, z7⟩ := hw'; go_simp) HC.out ?_
  refine goes_takeE (i := 7) (E := [8, 9, 10, 11]) (v := .pointer (some ⟨w.heap.size + 1, 2, none⟩)) rfl (by kernel_rfl) rfl (fun _ _ _ h => h) (by intro w' hw'; obtain ⟨⟨z0, z1, z2, z3⟩, z4, z5, z6, z7⟩ := hw'; go_simp) HC.out ?_
  refine goes_takeE (i := 8) (E := [9, 10, 11]) (v := .agg #[.bool t4, .slice B4 m4 d4]) rfl (by kernel_rfl) rfl (fun _ _ _ h => h) (by intro w' hw'; obtain ⟨⟨z0, z1, z2, z3⟩, z4, z5, z6, z7⟩ := hw'; go_simp) HC.out ?_
  refine goes_call (i := 4) rfl (by kernel_rfl) ?_
  go_wp2_with (go_at_call 19; go_loud (with_reducible refine (rprodH HUP.out.1 HUQ.out.1 (Below.refl _ _).drew (Below.refl _ _).drew (by omega) (by omega)).mono ?_; rintro e wg ⟨hbg, g1, G1, l1, k1, rfl, hi⟩; have hbg := below_drw hbg; have HBG := Lib.hid (below_to HUB.out hbg HUB.out.size); have HXG := Lib.hid (HUX.out.below hbg HUX.out.lt); have HYG := Lib.hid (HUY.out.below hbg HUY.out.lt); have HZG := Lib.hid (HUZ.out.below hbg HUZ.out.lt); have HIG := Lib.hid hi; have HP2 := Lib.hid (HUP.out.2.later hbg); have HQ2 := Lib.hid (HUQ.out.2.later hbg); clear hbg hi))
  refine behind_ok ⟨⟨HXG.out.four4, HYG.out.four4⟩, ?_⟩
  refine goes_call (i := 9) rfl (by kernel_rfl) ?_
  go_wp2_with (go_at_call 19; go_loud (with_reducible refine (rprodH HP2.out HQ2.out (Below.refl _ _) (Below.refl _ _) (by omega) (by omega)).mono ?_; rintro e wh ⟨hbh, g2, G2, l2, k2, rfl, hi⟩; have HBH := Lib.hid (below_to HBG.out hbh HBG.out.size); have HXH := Lib.hid (HXG.out.below hbh HXG.out.lt); have HYH := Lib.hid (HYG.out.below hbh HYG.out.lt); have HZH := Lib.hid (HZG.out.below hbh HZG.out.lt); have HIH := Lib.hid hi; have HIG2 := Lib.hid (HIG.out.later hbh); clear hbh hi))
  refine behind_ok ⟨⟨HXH.out.four4, HYH.out.four4⟩, ?_⟩
  refine goes_call (i := 10) rfl (by kernel_rfl) ?_
  have hden : (x.den : Int) * y.den ≠ 0 := Int.mul_ne_zero (by have := x.den_pos; omega) (by have := y.den_pos; omega)
  go_wp2_with (go_at_call 72; go_loud (with_reducible refine (roverH HIG2.out HIH.out (Below.refl _ _) (Below.refl _ _) (by omega) (by omega) hden).mono ?_; rintro e wf ⟨hbf, q1, C1, i1', e1, q2, C2, i2', e2, rfl, hr⟩; have HBF := Lib.hid (below_to HBH.out hbf HBH.out.size); have HXF := Lib.hid (HXH.out.below hbf HXH.out.lt); have HYF := Lib.hid (HYH.out.below hbf HYH.out.lt); have HZF := Lib.hid (HZH.out.below hbf HZH.out.lt); obtain ⟨r0, r1, r2, r3⟩ := HZF.out.four4; have fz0 := HZF.out.frozen 0; have fz1 := HZF.out.frozen 1; have fz2 := HZF.out.frozen 2; have fz3 := HZF.out.frozen 3; have HR := Lib.hid hr; clear hbf hr))
  refine behind_ok ⟨⟨HXF.out.four4, HYF.out.four4⟩, ?_⟩
  refine goes_last (i := 11) rfl (by kernel_rfl) (by kernel_rfl) ?_
  go_wp2_with fail
  obtain ⟨V2, hV, hVb, hVk, hVr, -, -⟩ := stored_over HBF.out (show w.heap.size ≤ w.heap.size + 1 + 1 by omega) HZF.out HR.out
  rw [← hV]
  clear hV
  obtain ⟨y0, y1, y2, y3⟩ := hVk.four4
  have HVB2 := Lib.hid hVb
  have HVR2 := Lib.hid hVr
  clear hVb hVk hVr
  (refine behind_ok (goes_done (by kernel_rfl) ?_); go_wp2)
  refine bodyPost_ret (v := .agg #[.bool q1, .slice C1 i1' e1, .bool q2, .slice C2 i2' e2]) (by simp [results, Tryz.results37, go_sem, y0, y1, y2, y3]) rfl ?_
  have hr := HVR2.out
  rw [mul_parts] at hr
  exact MakesRat.tight ⟨HVB2.out, q1, C1, i1', e1, q2, C2, i2', e2, rfl, hr⟩ HBD.out.1 HBD.out.2
end
end Go.Proofs.YthlfhfkfjefidaaGreat
/- The reference's Add. -/
namespace Go.Proofs.YthlfhfkfjefidaaGreat
open Go.RowKit
theorem add_bds {x y : Rat} {K1 K2 : Nat} (hx : x.num.natAbs < W K1 ∧ x.den < W K1) (hy : y.num.natAbs < W K2 ∧ y.den < W K2) : (x + y).num.natAbs < W (K1 + K2 + 1) ∧ (x + y).den < W (K1 + K2 + 1) := by
 have dx : (x.den : Int) ≠ 0 := by have := x.den_pos; omega
 have dy : (y.den : Int) ≠ 0 := by have := y.den_pos; omega
 have e : x + y = Rat.divInt (x.num * y.den + y.num * x.den) ((x.den : Int) * y.den) := by
  rw [← Rat.divInt_add_divInt _ _ dx dy, Rat.num_divInt_den, Rat.num_divInt_den]
 have hb := divInt_bd2 (p := x.num * y.den + y.num * x.den) (Int.mul_ne_zero dx dy)
 have h1 : (x.num * y.den).natAbs < W (K1 + K2) := by rw [Int.natAbs_mul, W_add]; exact Nat.mul_lt_mul_of_lt_of_lt hx.1 hy.2
 have h2 : (y.num * x.den).natAbs < W (K1 + K2) := by rw [Int.natAbs_mul, W_add, Nat.mul_comm (W K1)]; exact Nat.mul_lt_mul_of_lt_of_lt hy.1 hx.2
 have h3 : ((x.den : Int) * y.den).natAbs < W (K1 + K2) := by rw [Int.natAbs_mul, W_add]; exact Nat.mul_lt_mul_of_lt_of_lt hx.2 hy.2
 rw [← e] at hb
 rw [W_succ]
 omega
theorem add_parts (x y : Rat) : Rat.divInt (x.num * y.den + y.num * x.den) ((x.den : Int) * y.den) = x + y := by
 rw [← Rat.divInt_add_divInt _ _ (by have := x.den_pos; omega) (by have := y.den_pos; omega), Rat.num_divInt_den, Rat.num_divInt_den]
/- Three blocks of a world: HBW, HKX, HKY, HKZ about %1. -/
section
variable {w w1 w2 : World} {s1 s2 s3 s4 : Bool} {A1 A2 A3 A4 : Option Addr} {n1 c1 n2 c2 n3 c3 n4 c4 : Nat} {x y : Rat} {K1 K2 : Nat} {f1 f2 : Bool}
set_option maxRecDepth 100000 in
set_option maxHeartbeats 8000000 in
theorem raddH (h1 : RatH w1 s1 A1 n1 c1 s2 A2 n2 c2 x K1 f1) (h2 : RatH w2 s3 A3 n3 c3 s4 A4 n4 c4 y K2 f2) (b1 : Below w1.heap.size w1 w) (b2 : Below w2.heap.size w2 w) (hk1 : 0 < K1) (hk2 : 0 < K2) (hk : K1 + K2 ≤ 44) :
 Calls Tryz.prog 33 #[.agg #[.bool s1, .slice A1 n1 c1, .bool s2, .slice A2 n2 c2], .agg #[.bool s3, .slice A3 n3 c3, .bool s4, .slice A4 n4 c4]] w (MakesRat (x + y) (K1 + K2 + 1) w) := by
 obtain ⟨p, q, i1, i2, hx⟩ := h1.raw
 obtain ⟨r, s, j1, j2, hy⟩ := h2.raw
 have HX := Lib.hid hx
 have HY := Lib.hid hy
 clear hx hy
 have HBD := Lib.hid (add_bds (h1.bds hk1) (h2.bds hk2))
 go_enter Tryz.func33, Tryz.ntmps33
 go_upto_region 1 with fail
 obtain ⟨W, hW⟩ : ∃ W, W = (((w.alloc (.cells #[.bool s1, .slice A1 n1 c1, .bool s2, .slice A2 n2 c2] 41)).alloc (.cells #[.bool s3, .slice A3 n3 c3, .bool s4, .slice A4 n4 c4] 41)).alloc (.cells #[.bool false, .slice none 0 0, .bool false, .slice none 0 0] 41)) := ⟨_, rfl⟩
 have HBW : Hid (Below w.heap.size w W) := Lib.hid (by rw [hW]; exact bl)
 have HXW : Hid (Bk W w.heap.size 41 #[.bool s1, .slice A1 n1 c1, .bool s2, .slice A2 n2 c2]) := Lib.hid (by rw [hW]; exact bk)
 have HYW : Hid (Bk W (w.heap.size + 1) 41 #[.bool s3, .slice A3 n3 c3, .bool s4, .slice A4 n4 c4]) := Lib.hid (by rw [hW]; exact bk)
 have HZW : Hid (Bk W (w.heap.size + 1 + 1) 41 #[.bool false, .slice none 0 0, .bool false, .slice none 0 0]) := Lib.hid (by rw [hW]; exact bk)
 rw [← hW]
 clear hW
 obtain ⟨a0, a1, a2, a3⟩ := HXW.out.four4
 go_upto_region 3 with (first
  | (go_at_call 74; with_reducible refine (rquickH i1 i2 (below_to b1 HBW.out b1.size) (below_to b1 HBW.out b1.size)).mono ?_; rintro e wa hq; obtain ⟨hba, qa, qb, ok1, rfl, ha, hb, hb0, hok⟩ := hq.out; have HBA := Lib.hid (below_to HBW.out hba HBW.out.size); have HXA := Lib.hid (HXW.out.below hba HXW.out.lt); have HYA := Lib.hid (HYW.out.below hba HYW.out.lt); have HZA := Lib.hid (HZW.out.below hba HZW.out.lt); obtain ⟨a4, a5, a6, a7⟩ := HYA.out.four4; have HQA := Lib.hid (And.intro ha (And.intro hb (And.intro hb0 hok))); clear hq hba ha hb hb0 hok)
  | (go_at_call 74; go_loud (with_reducible refine (rquickH j1 j2 (below_to b2 HBA.out b2.size) (below_to b2 HBA.out b2.size)).mono ?_; rintro e wb hq; obtain ⟨hbb, qc, qd, ok2, rfl, ha, hb, hb0, hok⟩ := hq.out; have HBB := Lib.hid (below_to HBA.out hbb HBA.out.size); have HXB := Lib.hid (HXA.out.below hbb HXA.out.lt); have HYB := Lib.hid (HYA.out.below hbb HYA.out.lt); have HZB := Lib.hid (HZA.out.below hbb HZA.out.lt); have HQB := Lib.hid (And.intro ha (And.intro hb (And.intro hb0 hok))); clear hq hbb ha hb hb0 hok)))
 clear a0 a1 a2 a3 a4 a5 a6 a7
 cases ok1 <;> cases ok2
 rotate_left 3
 · obtain ⟨ha, hb, hb0, hok⟩ := HQA.out
   obtain ⟨hc, hd, hd0, hok2⟩ := HQB.out
   obtain ⟨u1, u2, u3⟩ := mul_bq ha hd
   obtain ⟨v1, v2, v3⟩ := mul_bq hb hd
   obtain ⟨o1, o2, o3⟩ := mul_bq hc hb
   have hne : qb * qd ≠ 0 := Int.mul_ne_zero hb0 hd0
   have HE : Hid (Rat.divInt (qa * qd + qc * qb) (qb * qd) = x + y) := Lib.hid (by rw [HX.out, HY.out, quick_frac (hok rfl), quick_frac (hok2 rfl)]; exact (Rat.divInt_add_divInt _ _ hb0 hd0).symm)
   clear hok hok2 HQA HQB ha hb hb0 hc hd hd0
   clear h1 h2
   go_wp2_with (go_at_call 75; go_loud (with_reducible refine (lowest_any (qa * qd + qc * qb) (qb * qd) _ (by omega) (by omega) hne).mono ?_; rintro e wf ⟨hbf, q1, C1, i1', e1, q2, C2, i2', e2, rfl, hr⟩; have HBF := Lib.hid (below_to HBB.out hbf HBB.out.size); have HXF := Lib.hid (HXB.out.below hbf HXB.out.lt); have HYF := Lib.hid (HYB.out.below hbf HYB.out.lt); have HZF := Lib.hid (HZB.out.below hbf HZB.out.lt); obtain ⟨r0, r1, r2, r3⟩ := HZF.out.four4; have fz0 := HZF.out.frozen 0; have fz1 := HZF.out.frozen 1; have fz2 := HZF.out.frozen 2; have fz3 := HZF.out.frozen 3; have HR := Lib.hid hr; clear hbf hr))
   obtain ⟨V2, hV, hVb, hVk, hVr, -, -⟩ := stored_over HBF.out (show w.heap.size ≤ w.heap.size + 1 + 1 by omega) HZF.out HR.out
   rw [← hV]
   clear hV
   obtain ⟨y0, y1, y2, y3⟩ := hVk.four4
   have HVB2 := Lib.hid hVb
   have HVR2 := Lib.hid hVr
   clear hVb hVk hVr
   skip
   refine bodyPost_ret (v := .agg #[.bool q1, .slice C1 i1' e1, .bool q2, .slice C2 i2' e2]) (by simp [results, Tryz.results33, go_sem, y0, y1, y2, y3]) rfl ?_
   have hr := HVR2.out
   rw [HE.out] at hr
   exact MakesRat.tight ⟨HVB2.out, q1, C1, i1', e1, q2, C2, i2', e2, rfl, hr⟩ HBD.out.1 HBD.out.2
 all_goals
  clear HQA HQB HX HY i1 i2 j1 j2
  go_upto_region 5 with fail
  have HC : Hid ((fun w' : World => (w'.cell? ⟨w.heap.size, 0, none⟩ = some (.bool s1) ∧ w'.cell? ⟨w.heap.size, 1, none⟩ = some (.slice A1 n1 c1) ∧ w'.cell? ⟨w.heap.size, 2, none⟩ = some (.bool s2) ∧ w'.cell? ⟨w.heap.size, 3, none⟩ = some (.slice A2 n2 c2)) ∧ w'.cell? ⟨w.heap.size + 1, 0, none⟩ = some (.bool s3) ∧ w'.cell? ⟨w.heap.size + 1, 1, none⟩ = some (.slice A3 n3 c3) ∧ w'.cell? ⟨w.heap.size + 1, 2, none⟩ = some (.bool s4) ∧ w'.cell? ⟨w.heap.size + 1, 3, none⟩ = some (.slice A4 n4 c4)) wb) := Lib.hid ⟨HXB.out.four4, HYB.out.four4⟩
  refine region_goes (n := 6) (fun w' => (w'.cell? ⟨w.heap.size, 0, none⟩ = some (.bool s1) ∧ w'.cell? ⟨w.heap.size, 1, none⟩ = some (.slice A1 n1 c1) ∧ w'.cell? ⟨w.heap.size, 2, none⟩ = some (.bool s2) ∧ w'.cell? ⟨w.heap.size, 3, none⟩ = some (.slice A2 n2 c2)) ∧ w'.cell? ⟨w.heap.size + 1, 0, none⟩ = some (.bool s3) ∧ w'.cell? ⟨w.heap.size + 1, 1, none⟩ = some (.slice A3 n3 c3) ∧ w'.cell? ⟨w.heap.size + 1, 2, none⟩ = some (.bool s4) ∧ w'.cell? ⟨w.heap.size + 1, 3, none⟩ = some (.slice A4 n4 c4)) [4, 5] (by kernel_rfl) rfl ?_
  refine goes_takeE (i := 0) (E := [1, 3, 4, 5]) (v := .agg #[.bool s1, .slice A1 n1 c1, .bool s2, .slice A2 n2 c2]) rfl (by kernel_rfl) rfl (fun _ _ _ h => h) (by intro w' hw'; obtain ⟨⟨z0, z1, z2, z3⟩, z4, z5, z6, z7⟩ := hw'; go_simp) HC.out ?_
  refine goes_takeE (i := 2) (E := [3, 4, 5]) (v := .agg #[.bool s3, .slice A3 n3 c3, .bool s4, .slice A4 n4 c4]) rfl (by kernel_rfl) rfl (fun _ _ _ h => h) (by intro w' hw'; obtain ⟨⟨z0, z1, z2, z3⟩, z4, z5, z6, z7⟩ := hw'; go_simp) HC.out ?_
  refine goes_call (i := 1) rfl (by kernel_rfl) ?_
  go_wp2_with (go_at_call 31; go_loud (with_reducible refine (rnormT h1 (below_to b1 HBB.out b1.size).drew (by omega) hk1).mono ?_; rintro e wm ⟨hbm, t1, B1, m1, d1, t2, B2, m2, d2, rfl, hr⟩; have hbm := below_drw hbm; have HBM := Lib.hid (below_to HBB.out hbm HBB.out.size); have HXM := Lib.hid (HXB.out.below hbm HXB.out.lt); have HYM := Lib.hid (HYB.out.below hbm HYB.out.lt); have HZM := Lib.hid (HZB.out.below hbm HZB.out.lt); have HRM := Lib.hid hr; clear hbm hr))
  refine behind_ok ⟨⟨HXM.out.four4, HYM.out.four4⟩, ?_⟩
  refine goes_call (i := 3) rfl (by kernel_rfl) ?_
  go_wp2_with (go_at_call 31; go_loud (with_reducible refine (rnormT h2 (below_to b2 HBM.out b2.size) (by omega) hk2).mono ?_; rintro e wn ⟨hbn, t3, B3, m3, d3, t4, B4, m4, d4, rfl, hr⟩; have HBN := Lib.hid (below_to HBM.out hbn HBM.out.size); have HXN := Lib.hid (HXM.out.below hbn HXM.out.lt); have HYN := Lib.hid (HYM.out.below hbn HYM.out.lt); have HZN := Lib.hid (HZM.out.below hbn HZM.out.lt); have HRN := Lib.hid hr; have HRM2 := Lib.hid (HRM.out.later hbn); obtain ⟨x0, x1, x2, x3⟩ := HXN.out.four4; obtain ⟨x4, x5, x6, x7⟩ := HYN.out.four4; have g0 := HXN.out.frozen 0; have g1 := HXN.out.frozen 1; have g2 := HXN.out.frozen 2; have g3 := HXN.out.frozen 3; have g4 := HYN.out.frozen 0; have g5 := HYN.out.frozen 1; have g6 := HYN.out.frozen 2; have g7 := HYN.out.frozen 3; clear hbn hr))
  refine behind_ok ⟨⟨HXN.out.four4, HYN.out.four4⟩, ?_⟩
  refine goes_last (i := 4) rfl (by kernel_rfl) (by kernel_rfl) ?_
  go_wp2_with fail
  obtain ⟨V, hV, hVb, hVk, hVr, hVo, hVs⟩ := stored_over HBN.out (Nat.le_refl _) HXN.out HRM2.out
  rw [← hV]
  refine behind_ok ?_
  have HVY := Lib.hid (hVo _ _ _ (show w.heap.size + 1 ≠ w.heap.size by omega) HYN.out)
  have HVZ := Lib.hid (hVo _ _ _ (show w.heap.size + 1 + 1 ≠ w.heap.size by omega) HZN.out)
  have HVN := Lib.hid (HRN.out.stored HXN.out (fun p hp => by rw [hV]; exact set_four (o1 := 0) (o2 := 1) (o3 := 2) (o4 := 3) _ _ _ _ p hp) hVs)
  clear hV g4 g5 g6 g7 x4 x5 x6 x7
  obtain ⟨x4, x5, x6, x7⟩ := HVY.out.four4
  have g4 := HVY.out.frozen 0
  have g5 := HVY.out.frozen 1
  have g6 := HVY.out.frozen 2
  have g7 := HVY.out.frozen 3
  have HVB := Lib.hid hVb
  have HVK := Lib.hid hVk
  have HVR := Lib.hid hVr
  clear hVb hVk hVr hVo hVs HC
  refine goes_last (i := 5) rfl (by kernel_rfl) (by kernel_rfl) ?_
  go_wp2_with fail
  obtain ⟨U, hU, hUb, hUk, hUr, hUo, hUs⟩ := stored_over HVB.out (show w.heap.size ≤ w.heap.size + 1 by omega) HVY.out HVN.out
  rw [← hU]
  refine behind_ok (goes_done (by kernel_rfl) ?_)
  have HUX := Lib.hid (hUo _ _ _ (show w.heap.size ≠ w.heap.size + 1 by omega) HVK.out)
  have HUZ := Lib.hid (hUo _ _ _ (show w.heap.size + 1 + 1 ≠ w.heap.size + 1 by omega) HVZ.out)
  have HUP := Lib.hid (HVR.out.stored HVY.out (fun p hp => by rw [hU]; exact set_four (o1 := 0) (o2 := 1) (o3 := 2) (o4 := 3) _ _ _ _ p hp) hUs).parts2
  have HUQ := Lib.hid hUr.parts2
  have HUY := Lib.hid hUk
  have HUB := Lib.hid hUb
  clear hU hUb hUk hUr hUo hUs g0 g1 g2 g3 g4 g5 g6 g7 x0 x1 x2 x3 x4 x5 x6 x7
  clear HBW HXW HYW HZW HBA HXA HYA HZA HBM HXM HYM HZM HRM HBN HXN HYN HZN HRN HRM2 HVB HVK HVR HVY HVZ HVN
  go_upto_region 6 with fail
  have HC : Hid ((fun w' : World => (w'.cell? ⟨w.heap.size, 0, none⟩ = some (.bool t1) ∧ w'.cell? ⟨w.heap.size, 1, none⟩ = some (.slice B1 m1 d1) ∧ w'.cell? ⟨w.heap.size, 2, none⟩ = some (.bool t2) ∧ w'.cell? ⟨w.heap.size, 3, none⟩ = some (.slice B2 m2 d2)) ∧ w'.cell? ⟨w.heap.size + 1, 0, none⟩ = some (.bool t3) ∧ w'.cell? ⟨w.heap.size + 1, 1, none⟩ = some (.slice B3 m3 d3) ∧ w'.cell? ⟨w.heap.size + 1, 2, none⟩ = some (.bool t4) ∧ w'.cell? ⟨w.heap.size + 1, 3, none⟩ = some (.slice B4 m4 d4)) U) := Lib.hid ⟨HUX.out.four4, HUY.out.four4⟩
  refine region_goes (n := 18) (fun w' => (w'.cell? ⟨w.heap.size, 0, none⟩ = some (.bool t1) ∧ w'.cell? ⟨w.heap.size, 1, none⟩ = some (.slice B1 m1 d1) ∧ w'.cell? ⟨w.heap.size, 2, none⟩ = some (.bool t2) ∧ w'.cell? ⟨w.heap.size, 3, none⟩ = some (.slice B2 m2 d2)) ∧ w'.cell? ⟨w.heap.size + 1, 0, none⟩ = some (.bool t3) ∧ w'.cell? ⟨w.heap.size + 1, 1, none⟩ = some (.slice B3 m3 d3) ∧ w'.cell? ⟨w.heap.size + 1, 2, none⟩ = some (.bool t4) ∧ w'.cell? ⟨w.heap.size + 1, 3, none⟩ = some (.slice B4 m4 d4)) [17] (by kernel_rfl) rfl ?_
  refine goes_takeE (i := 0) (E := [1, 4, 9, 10, 15, 16, 17]) (v := .pointer (some ⟨w.heap.size, 0, none⟩)) rfl (by kernel_rfl) rfl (fun _ _ _ h => h) (by intro w' hw'; obtain ⟨⟨z0, z1, z2, z3⟩, z4, z5, z6, z7⟩ := hw'; go_simp) HC.out ?_
  refine goes_takeE (i := 1) (E := [4, 9, 10, 15, 16, 17]) (v := .agg #[.bool t1, .slice B1 m1 d1]) rfl (by kernel_rfl) rfl (fun _ _ _ h => h) (by intro w' hw'; obtain ⟨⟨z0, z1, z2, z3⟩, z4, z5, z6, z7⟩ := hw'; go_simp) HC.out ?_
  refine goes_takeE (i := 2) (E := [3, 4, 9, 10, 15, 16, 17]) (v := .pointer (some ⟨w.heap.size + 1, 2, none⟩)) rfl (by kernel_rfl) rfl (fun _ _ _ h => h) (by intro w' hw'; obtain ⟨⟨z0, z1, z2, z3⟩, z4, z5, z6, z7⟩ := hw'; go_simp) HC.out ?_
  refine goes_takeE (i := 3) (E := [4, 9, 10, 15, 16, 17]) (v := .agg #[.bool t4, .slice B4 m4 d4]) rfl (by kernel_rfl) rfl (fun _ _ _ h => h) (by intro w' hw'; obtain ⟨⟨z0, z1, z2, z3⟩, z4, z5, z6, z7⟩ := hw'; go_simp) HC.out ?_
  refine goes_takeE (i := 5) (E := [6, 9, 10, 15, 16, 17]) (v := .pointer (some ⟨w.heap.size + 1, 0, none⟩)) rfl (by kernel_rfl) rfl (fun _ _ _ h => h) (by intro w' hw'; obtain ⟨⟨z0, z1, z2, z3⟩, z4, z5, z6, z7⟩ := hw'; go_simp) HC.out ?_
  refine goes_takeE (i := 6) (E := [9, 10, 15, 16, 17]) (v := .agg #[.bool t3, .slice B3 m3 d3]) rfl (by kernel_rfl) rfl (fun _ _ _ h => h) (by intro w' hw'; obtain ⟨⟨z0, z1, z2, z3⟩, z4, z5, z6, z7⟩ := hw'; go_simp) HC.out ?_
  refine goes_takeE (i := 7) (E := [8, 9, 10, 15, 16, 17]) (v := .pointer (some ⟨w.heap.size, 2, none⟩)) rfl (by kernel_rfl) rfl (fun _ _ _ h => h) (by intro w' hw'; obtain ⟨⟨z0, z1, z2, z3⟩, z4, z5, z6, z7⟩ := hw'; go_simp) HC.out ?_
  refine goes_takeE (i := 8) (E := [9, 10, 15, 16, 17]) (v := .agg #[.bool t2, .slice B2 m2 d2]) rfl (by kernel_rfl) rfl (fun _ _ _ h => h) (by intro w' hw'; obtain ⟨⟨z0, z1, z2, z3⟩, z4, z5, z6, z7⟩ := hw'; go_simp) HC.out ?_
  refine goes_takeE (i := 11) (E := [12, 15, 16, 17]) (v := .pointer (some ⟨w.heap.size, 2, none⟩)) rfl (by kernel_rfl) rfl (fun _ _ _ h => h) (by intro w' hw'; obtain ⟨⟨z0, z1, z2, z3⟩, z4, z5, z6, z7⟩ := hw'; go_simp) HC.out ?_
  refine goes_takeE (i := 12) (E := [15, 16, 17]) (v := .agg #[.bool t2, .slice B2 m2 d2]) rfl (by kernel_rfl) rfl (fun _ _ _ h => h) (by intro w' hw'; obtain ⟨⟨z0, z1, z2, z3⟩, z4, z5, z6, z7⟩ := hw'; go_simp) HC.out ?_
  refine goes_takeE (i := 13) (E := [14, 15, 16, 17]) (v := .pointer (some ⟨w.heap.size + 1, 2, none⟩)) rfl (by kernel_rfl) rfl (fun _ _ _ h => h) (by intro w' hw'; obtain ⟨⟨z0, z1, z2, z3⟩, z4, z5, z6, z7⟩ := hw'; go_simp) HC.out ?_
  refine goes_takeE (i := 14) (E := [15, 16, 17]) (v := .agg #[.bool t4, .slice B4 m4 d4]) rfl (by kernel_rfl) rfl (fun _ _ _ h => h) (by intro w' hw'; obtain ⟨⟨z0, z1, z2, z3⟩, z4, z5, z6, z7⟩ := hw'; go_simp) HC.out ?_
  refine goes_call (i := 4) rfl (by kernel_rfl) ?_
  go_wp2_with (go_at_call 19; go_loud (with_reducible refine (rprodH HUP.out.1 HUQ.out.2 (Below.refl _ _).drew (Below.refl _ _).drew (by omega) (by omega)).mono ?_; rintro e wg ⟨hbg, g1, G1, l1, k1, rfl, hi⟩; have hbg := below_drw hbg; have HBG := Lib.hid (below_to HUB.out hbg HUB.out.size); have HXG := Lib.hid (HUX.out.below hbg HUX.out.lt); have HYG := Lib.hid (HUY.out.below hbg HUY.out.lt); have HZG := Lib.hid (HUZ.out.below hbg HUZ.out.lt); have HIG := Lib.hid hi; have HP2 := Lib.hid (And.intro (HUP.out.1.later hbg) (HUP.out.2.later hbg)); have HQ2 := Lib.hid (And.intro (HUQ.out.1.later hbg) (HUQ.out.2.later hbg)); clear hbg hi))
  refine behind_ok ⟨⟨HXG.out.four4, HYG.out.four4⟩, ?_⟩
  refine goes_call (i := 9) rfl (by kernel_rfl) ?_
  go_wp2_with (go_at_call 19; go_loud (with_reducible refine (rprodH HQ2.out.1 HP2.out.2 (Below.refl _ _) (Below.refl _ _) (by omega) (by omega)).mono ?_; rintro e wh ⟨hbh, g2, G2, l2, k2, rfl, hi⟩; have HBH := Lib.hid (below_to HBG.out hbh HBG.out.size); have HXH := Lib.hid (HXG.out.below hbh HXG.out.lt); have HYH := Lib.hid (HYG.out.below hbh HYG.out.lt); have HZH := Lib.hid (HZG.out.below hbh HZG.out.lt); have HIH := Lib.hid hi; have HIG2 := Lib.hid (HIG.out.later hbh); have HP3 := Lib.hid (HP2.out.2.later hbh); have HQ3 := Lib.hid (HQ2.out.2.later hbh); clear hbh hi))
  refine behind_ok ⟨⟨HXH.out.four4, HYH.out.four4⟩, ?_⟩
  refine goes_call (i := 10) rfl (by kernel_rfl) ?_
  go_wp2_with (go_at_call 15; go_loud (with_reducible refine (rsumH HIG2.out HIH.out (Below.refl _ _) (Below.refl _ _) (by omega) (by omega)).mono ?_; rintro e wi ⟨hbi, g3, G3, l3, k3, rfl, hi⟩; have HBI := Lib.hid (below_to HBH.out hbi HBH.out.size); have HXI := Lib.hid (HXH.out.below hbi HXH.out.lt); have HYI := Lib.hid (HYH.out.below hbi HYH.out.lt); have HZI := Lib.hid (HZH.out.below hbi HZH.out.lt); have HII := Lib.hid hi; have HP4 := Lib.hid (HP3.out.later hbi); have HQ4 := Lib.hid (HQ3.out.later hbi); clear hbi hi))
  refine behind_ok ⟨⟨HXI.out.four4, HYI.out.four4⟩, ?_⟩
  refine goes_call (i := 15) rfl (by kernel_rfl) ?_
  go_wp2_with (go_at_call 19; go_loud (with_reducible refine (rprodH HP4.out HQ4.out (Below.refl _ _) (Below.refl _ _) (by omega) (by omega)).mono ?_; rintro e wj ⟨hbj, g4, G4, l4, k4, rfl, hi⟩; have HBJ := Lib.hid (below_to HBI.out hbj HBI.out.size); have HXJ := Lib.hid (HXI.out.below hbj HXI.out.lt); have HYJ := Lib.hid (HYI.out.below hbj HYI.out.lt); have HZJ := Lib.hid (HZI.out.below hbj HZI.out.lt); have HIJ := Lib.hid hi; have HII2 := Lib.hid (HII.out.later hbj); clear hbj hi))
  refine behind_ok ⟨⟨HXJ.out.four4, HYJ.out.four4⟩, ?_⟩
  refine goes_call (i := 16) rfl (by kernel_rfl) ?_
  have hden : (x.den : Int) * y.den ≠ 0 := Int.mul_ne_zero (by have := x.den_pos; omega) (by have := y.den_pos; omega)
  go_wp2_with (go_at_call 72; go_loud (with_reducible refine (roverH HII2.out HIJ.out (Below.refl _ _) (Below.refl _ _) (by omega) (by omega) hden).mono ?_; rintro e wf ⟨hbf, q1, C1, i1', e1, q2, C2, i2', e2, rfl, hr⟩; have HBF := Lib.hid (below_to HBJ.out hbf HBJ.out.size); have HXF := Lib.hid (HXJ.out.below hbf HXJ.out.lt); have HYF := Lib.hid (HYJ.out.below hbf HYJ.out.lt); have HZF := Lib.hid (HZJ.out.below hbf HZJ.out.lt); obtain ⟨r0, r1, r2, r3⟩ := HZF.out.four4; have fz0 := HZF.out.frozen 0; have fz1 := HZF.out.frozen 1; have fz2 := HZF.out.frozen 2; have fz3 := HZF.out.frozen 3; have HR := Lib.hid hr; clear hbf hr))
  refine behind_ok ⟨⟨HXF.out.four4, HYF.out.four4⟩, ?_⟩
  refine goes_last (i := 17) rfl (by kernel_rfl) (by kernel_rfl) ?_
  go_wp2_with fail
  obtain ⟨V2, hV, hVb, hVk, hVr, -, -⟩ := stored_over HBF.out (show w.heap.size ≤ w.heap.size + 1 + 1 by omega) HZF.out HR.out
  rw [← hV]
  clear hV
  obtain ⟨y0, y1, y2, y3⟩ := hVk.four4
  have HVB2 := Lib.hid hVb
  have HVR2 := Lib.hid hVr
  clear hVb hVk hVr
  (refine behind_ok (goes_done (by kernel_rfl) ?_); go_wp2)
  refine bodyPost_ret (v := .agg #[.bool q1, .slice C1 i1' e1, .bool q2, .slice C2 i2' e2]) (by simp [results, Tryz.results33, go_sem, y0, y1, y2, y3]) rfl ?_
  have hr := HVR2.out
  rw [add_parts] at hr
  exact MakesRat.tight ⟨HVB2.out, q1, C1, i1', e1, q2, C2, i2', e2, rfl, hr⟩ HBD.out.1 HBD.out.2
end
end Go.Proofs.YthlfhfkfjefidaaGreat
/- The reference's Sub and Cmp. -/
namespace Go.Proofs.YthlfhfkfjefidaaGreat
open Go.RowKit
theorem add_neg (x y : Rat) : x + -y = x - y := (Rat.sub_eq_add_neg x y).symm
section
variable {w w1 w2 : World} {s1 s2 s3 s4 : Bool} {A1 A2 A3 A4 : Option Addr} {n1 c1 n2 c2 n3 c3 n4 c4 : Nat} {x y : Rat} {K1 K2 : Nat} {f1 f2 : Bool}
set_option maxRecDepth 100000 in
set_option maxHeartbeats 8000000 in
theorem rsubH (h1 : RatH w1 s1 A1 n1 c1 s2 A2 n2 c2 x K1 f1) (h2 : RatH w2 s3 A3 n3 c3 s4 A4 n4 c4 y K2 f2) (b1 : Below w1.heap.size w1 w) (b2 : Below w2.heap.size w2 w) (hk1 : 0 < K1) (hk2 : 0 < K2) (hk : K1 + K2 ≤ 44) :
 Calls Tryz.prog 35 #[.agg #[.bool s1, .slice A1 n1 c1, .bool s2, .slice A2 n2 c2], .agg #[.bool s3, .slice A3 n3 c3, .bool s4, .slice A4 n4 c4]] w (MakesRat (x - y) (K1 + K2 + 1) w) := by
 go_enter Tryz.func35, Tryz.ntmps35
 go_upto_region 1 with fail
 obtain ⟨W, hW⟩ : ∃ W, W = (((w.alloc (.cells #[.bool s1, .slice A1 n1 c1, .bool s2, .slice A2 n2 c2] 41)).alloc (.cells #[.bool s3, .slice A3 n3 c3, .bool s4, .slice A4 n4 c4] 41)).alloc (.cells #[.bool false, .slice none 0 0, .bool false, .slice none 0 0] 41)) := ⟨_, rfl⟩
 have HBW : Hid (Below w.heap.size w W) := Lib.hid (by rw [hW]; exact bl)
 have HXW : Hid (Bk W w.heap.size 41 #[.bool s1, .slice A1 n1 c1, .bool s2, .slice A2 n2 c2]) := Lib.hid (by rw [hW]; exact bk)
 have HYW : Hid (Bk W (w.heap.size + 1) 41 #[.bool s3, .slice A3 n3 c3, .bool s4, .slice A4 n4 c4]) := Lib.hid (by rw [hW]; exact bk)
 have HZW : Hid (Bk W (w.heap.size + 1 + 1) 41 #[.bool false, .slice none 0 0, .bool false, .slice none 0 0]) := Lib.hid (by rw [hW]; exact bk)
 rw [← hW]
 clear hW
 have HC : Hid ((fun w' : World => (w'.cell? ⟨w.heap.size, 0, none⟩ = some (.bool s1) ∧ w'.cell? ⟨w.heap.size, 1, none⟩ = some (.slice A1 n1 c1) ∧ w'.cell? ⟨w.heap.size, 2, none⟩ = some (.bool s2) ∧ w'.cell? ⟨w.heap.size, 3, none⟩ = some (.slice A2 n2 c2)) ∧ w'.cell? ⟨w.heap.size + 1, 0, none⟩ = some (.bool s3) ∧ w'.cell? ⟨w.heap.size + 1, 1, none⟩ = some (.slice A3 n3 c3) ∧ w'.cell? ⟨w.heap.size + 1, 2, none⟩ = some (.bool s4) ∧ w'.cell? ⟨w.heap.size + 1, 3, none⟩ = some (.slice A4 n4 c4)) W) := Lib.hid ⟨HXW.out.four4, HYW.out.four4⟩
 refine region_goes (n := 5) (fun w' => (w'.cell? ⟨w.heap.size, 0, none⟩ = some (.bool s1) ∧ w'.cell? ⟨w.heap.size, 1, none⟩ = some (.slice A1 n1 c1) ∧ w'.cell? ⟨w.heap.size, 2, none⟩ = some (.bool s2) ∧ w'.cell? ⟨w.heap.size, 3, none⟩ = some (.slice A2 n2 c2)) ∧ w'.cell? ⟨w.heap.size + 1, 0, none⟩ = some (.bool s3) ∧ w'.cell? ⟨w.heap.size + 1, 1, none⟩ = some (.slice A3 n3 c3) ∧ w'.cell? ⟨w.heap.size + 1, 2, none⟩ = some (.bool s4) ∧ w'.cell? ⟨w.heap.size + 1, 3, none⟩ = some (.slice A4 n4 c4)) [4] (by kernel_rfl) rfl ?_
 refine goes_takeE (i := 0) (E := [3, 4]) (v := .agg #[.bool s1, .slice A1 n1 c1, .bool s2, .slice A2 n2 c2]) rfl (by kernel_rfl) rfl (fun _ _ _ h => h) (by intro w' hw'; obtain ⟨⟨z0, z1, z2, z3⟩, z4, z5, z6, z7⟩ := hw'; go_simp) HC.out ?_
 refine goes_takeE (i := 1) (E := [2, 3, 4]) (v := .agg #[.bool s3, .slice A3 n3 c3, .bool s4, .slice A4 n4 c4]) rfl (by kernel_rfl) rfl (fun _ _ _ h => h) (by intro w' hw'; obtain ⟨⟨z0, z1, z2, z3⟩, z4, z5, z6, z7⟩ := hw'; go_simp) HC.out ?_
 refine goes_call (i := 2) rfl (by kernel_rfl) ?_
 go_wp2_with (go_at_call 76; go_loud (with_reducible refine (rnegH h2 (below_to b2 HBW.out b2.size).drew (by omega) hk2).mono ?_; rintro e wm ⟨hbm, t1, B1, m1, d1, t2, B2, m2, d2, rfl, hr⟩; have hbm := below_drw hbm; have HBM := Lib.hid (below_to HBW.out hbm HBW.out.size); have HXM := Lib.hid (HXW.out.below hbm HXW.out.lt); have HYM := Lib.hid (HYW.out.below hbm HYW.out.lt); have HZM := Lib.hid (HZW.out.below hbm HZW.out.lt); have HRM := Lib.hid hr; clear hbm hr))
 refine behind_ok ⟨⟨HXM.out.four4, HYM.out.four4⟩, ?_⟩
 refine goes_call (i := 3) rfl (by kernel_rfl) ?_
 go_wp2_with (go_at_call 33; go_loud (with_reducible refine (raddH h1 HRM.out (below_to b1 HBM.out b1.size) (Below.refl _ _) hk1 hk2 hk).mono ?_; rintro e wf ⟨hbf, q1, C1, i1', e1, q2, C2, i2', e2, rfl, hr⟩; have HBF := Lib.hid (below_to HBM.out hbf HBM.out.size); have HXF := Lib.hid (HXM.out.below hbf HXM.out.lt); have HYF := Lib.hid (HYM.out.below hbf HYM.out.lt); have HZF := Lib.hid (HZM.out.below hbf HZM.out.lt); obtain ⟨r0, r1, r2, r3⟩ := HZF.out.four4; have fz0 := HZF.out.frozen 0; have fz1 := HZF.out.frozen 1; have fz2 := HZF.out.frozen 2; have fz3 := HZF.out.frozen 3; have HR := Lib.hid hr; clear hbf hr))
 refine behind_ok ⟨⟨HXF.out.four4, HYF.out.four4⟩, ?_⟩
 refine goes_last (i := 4) rfl (by kernel_rfl) (by kernel_rfl) ?_
 go_wp2_with fail
 obtain ⟨V2, hV, hVb, hVk, hVr, -, -⟩ := stored_over HBF.out (show w.heap.size ≤ w.heap.size + 1 + 1 by omega) HZF.out HR.out
 rw [← hV]
 clear hV
 obtain ⟨y0, y1, y2, y3⟩ := hVk.four4
 have HVB2 := Lib.hid hVb
 have HVR2 := Lib.hid hVr
 clear hVb hVk hVr
 refine behind_ok (goes_done (by kernel_rfl) ?_)
 go_wp2
 refine bodyPost_ret (v := .agg #[.bool q1, .slice C1 i1' e1, .bool q2, .slice C2 i2' e2]) (by simp [results, Tryz.results35, go_sem, y0, y1, y2, y3]) rfl ?_
 have hr := HVR2.out
 rw [add_neg] at hr
 exact ⟨HVB2.out, q1, C1, i1', e1, q2, C2, i2', e2, rfl, hr⟩
set_option maxRecDepth 100000 in
set_option maxHeartbeats 8000000 in
theorem rcmpRH (h1 : RatH w1 s1 A1 n1 c1 s2 A2 n2 c2 x K1 f1) (h2 : RatH w2 s3 A3 n3 c3 s4 A4 n4 c4 y K2 f2) (b1 : Below w1.heap.size w1 w) (b2 : Below w2.heap.size w2 w) (hk1 : 0 < K1) (hk2 : 0 < K2) (hk : K1 + K2 ≤ 44) {C : Int} (hC : cmpI (x - y).num 0 = C) :
 Calls Tryz.prog 41 #[.agg #[.bool s1, .slice A1 n1 c1, .bool s2, .slice A2 n2 c2], .agg #[.bool s3, .slice A3 n3 c3, .bool s4, .slice A4 n4 c4]] w fun e w' => Below w.heap.size w w' ∧ e = .returned (.int .i64 C) := by
 go_enter Tryz.func41, Tryz.ntmps41
 go_upto_region 1 with fail
 obtain ⟨W, hW⟩ : ∃ W, W = ((w.alloc (.cells #[.bool s1, .slice A1 n1 c1, .bool s2, .slice A2 n2 c2] 41)).alloc (.cells #[.bool s3, .slice A3 n3 c3, .bool s4, .slice A4 n4 c4] 41)) := ⟨_, rfl⟩
 have HBW : Hid (Below w.heap.size w W) := Lib.hid (by rw [hW]; exact bl)
 have HXW : Hid (Bk W w.heap.size 41 #[.bool s1, .slice A1 n1 c1, .bool s2, .slice A2 n2 c2]) := Lib.hid (by rw [hW]; exact bk)
 have HYW : Hid (Bk W (w.heap.size + 1) 41 #[.bool s3, .slice A3 n3 c3, .bool s4, .slice A4 n4 c4]) := Lib.hid (by rw [hW]; exact bk)
 rw [← hW]
 clear hW
 obtain ⟨a0, a1, a2, a3⟩ := HXW.out.four4
 obtain ⟨a4, a5, a6, a7⟩ := HYW.out.four4
 go_wp2_with (first
  | (go_at_call 35; go_loud (with_reducible refine (rsubH h1 h2 (below_to b1 HBW.out b1.size) (below_to b2 HBW.out b2.size) hk1 hk2 hk).mono ?_; rintro e wf ⟨hbf, q1, C1, i1', e1, q2, C2, i2', e2, rfl, hr⟩; have HBF := Lib.hid (below_to HBW.out hbf HBW.out.size); have HR := Lib.hid hr; clear hbf hr))
  | (go_at_call 77; go_loud (with_reducible refine (rsignOfH HR.out (Below.refl _ _) hC).mono ?_; rintro e wg ⟨hbg, rfl⟩; have HBG := Lib.hid (below_to HBF.out hbg HBF.out.size))))
 refine bodyPost_ret (by simp [results, Tryz.results41, go_sem]; rfl) rfl ?_
 exact ⟨HBG.out, rfl⟩
end
end Go.Proofs.YthlfhfkfjefidaaGreat
