/- ExactRoots: CmpRoots of the program returns what the reference returns, it turns around with its arguments, and with numbers that are not negative it is the comparison of the squares: the statement holds for every input, with no condition. -/
import Derived.Test.YtfjcbmdeaiaeiaaGreatRootG
import Derived.Test.YtfjcbmdeaiaeiaaGreatAwake1
/- Roots, the reference: CmpRoots. -/
namespace Go.Proofs.YtfjcbmdeaiaeiaaGreat
open Go Go.RowKit

/- The second's sign: of the state %1. -/
set_option maxRecDepth 100000 in
set_option maxHeartbeats 800000 in
theorem refCmpRoots_ok {s1 s2 s3 s4 : Bool} {A1 A2 A3 A4 : Option Addr} {n1 c1 n2 c2 n3 c3 n4 c4 K1 K2 : Nat} {f1 f2 : Bool} {x y : Rat} {w1 w2 w : World} (h1 : RatH w1 s1 A1 n1 c1 s2 A2 n2 c2 x K1 f1) (h2 : RatH w2 s3 A3 n3 c3 s4 A4 n4 c4 y K2 f2) (b1 : Below w1.heap.size w1 w) (b2 : Below w2.heap.size w2 w) (k1 : 0 < K1 ∧ K1 ≤ 3) (k2 : 0 < K2 ∧ K2 ≤ 3) (m n : Int) (m0 : 0 ≤ m) (m1 : m ≤ 9223372036854775807) (n0 : 0 ≤ n) (n1' : n ≤ 9223372036854775807) {C : Int} (hC : cmpQ (sqs x * (m : Rat)) (sqs y * (n : Rat)) = C) :
    Calls Tryz.prog 46 #[.agg #[.bool s1, .slice A1 n1 c1, .bool s2, .slice A2 n2 c2], .int .i64 m, .agg #[.bool s3, .slice A3 n3 c3, .bool s4, .slice A4 n4 c4], .int .i64 n] w fun e w' => Below w.heap.size w w' ∧ e = .returned (.tuple #[.int .i64 C, .int .i64 0]) := by
  have HCC := Lib.hid hC
  have e1 : decide (m < 0) = false := decide_eq_false (by omega)
  have e2 : decide (n < 0) = false := decide_eq_false (by omega)
  obtain ⟨k10, k11⟩ := k1
  obtain ⟨k20, k21⟩ := k2
  clear hC
  go_enter Tryz.func46, Tryz.ntmps46
  go_upto_region 3 with fail
  obtain ⟨W, hW⟩ : ∃ W, W = ((w.alloc (.cells #[.bool s1, .slice A1 n1 c1, .bool s2, .slice A2 n2 c2] 41)).alloc (.cells #[.bool s3, .slice A3 n3 c3, .bool s4, .slice A4 n4 c4] 41)) := ⟨_, rfl⟩
  have HBW : Hid (Below w.heap.size w W) := Lib.hid (by rw [hW]; exact (by repeat (first | with_reducible exact Below.refl _ _ | with_reducible assumption | with_reducible refine Below.drew ?_ | with_reducible refine Below.drewN ?_ _ | with_reducible refine Below.alloc2 ?_ _ | with_reducible refine Below.alloc ?_ (by first | omega | (simp <;> omega)) _ | with_reducible refine Below.setCell ?_ (by first | omega | (simp <;> omega)) _ | with_reducible refine Below.step2 (by with_reducible assumption) ?_ | with_reducible refine Below.step (by with_reducible assumption) ?_ (by first | omega | (simp <;> omega)))))
  have HXW : Hid (Bk W w.heap.size 41 #[.bool s1, .slice A1 n1 c1, .bool s2, .slice A2 n2 c2]) := Lib.hid (by rw [hW]; exact (by repeat (first | with_reducible assumption | with_reducible exact Bk.at_ (by first | (simp; done) | omega) | with_reducible refine Bk.alloc ?_ _ | with_reducible refine Bk.drew ?_ | with_reducible refine Bk.drewN ?_ _ | with_reducible refine Bk.step (by with_reducible assumption) ?_ (by first | omega | (simp <;> omega)))))
  have HYW : Hid (Bk W (w.heap.size + 1) 41 #[.bool s3, .slice A3 n3 c3, .bool s4, .slice A4 n4 c4]) := Lib.hid (by rw [hW]; exact (by repeat (first | with_reducible assumption | with_reducible exact Bk.at_ (by first | (simp; done) | omega) | with_reducible refine Bk.alloc ?_ _ | with_reducible refine Bk.drew ?_ | with_reducible refine Bk.drewN ?_ _ | with_reducible refine Bk.step (by with_reducible assumption) ?_ (by first | omega | (simp <;> omega)))))
  have hsz : W.heap.size = w.heap.size + 2 := by rw [hW]; simp
  rw [← hW]
  clear hW e1 e2
  have HC : Hid ((fun w' : World => (w'.cell? ⟨w.heap.size, 0, none⟩ = some (.bool s1) ∧ w'.cell? ⟨w.heap.size, 1, none⟩ = some (.slice A1 n1 c1) ∧ w'.cell? ⟨w.heap.size, 2, none⟩ = some (.bool s2) ∧ w'.cell? ⟨w.heap.size, 3, none⟩ = some (.slice A2 n2 c2)) ∧ w'.cell? ⟨w.heap.size + 1, 0, none⟩ = some (.bool s3) ∧ w'.cell? ⟨w.heap.size + 1, 1, none⟩ = some (.slice A3 n3 c3) ∧ w'.cell? ⟨w.heap.size + 1, 2, none⟩ = some (.bool s4) ∧ w'.cell? ⟨w.heap.size + 1, 3, none⟩ = some (.slice A4 n4 c4)) W.drew) := Lib.hid ⟨HXW.out.four4, HYW.out.four4⟩
  have HSA : Hid (∀ (w' : World) o, (fun w' : World => (w'.cell? ⟨w.heap.size, 0, none⟩ = some (.bool s1) ∧ w'.cell? ⟨w.heap.size, 1, none⟩ = some (.slice A1 n1 c1) ∧ w'.cell? ⟨w.heap.size, 2, none⟩ = some (.bool s2) ∧ w'.cell? ⟨w.heap.size, 3, none⟩ = some (.slice A2 n2 c2)) ∧ w'.cell? ⟨w.heap.size + 1, 0, none⟩ = some (.bool s3) ∧ w'.cell? ⟨w.heap.size + 1, 1, none⟩ = some (.slice A3 n3 c3) ∧ w'.cell? ⟨w.heap.size + 1, 2, none⟩ = some (.bool s4) ∧ w'.cell? ⟨w.heap.size + 1, 3, none⟩ = some (.slice A4 n4 c4)) w' → (fun w' : World => (w'.cell? ⟨w.heap.size, 0, none⟩ = some (.bool s1) ∧ w'.cell? ⟨w.heap.size, 1, none⟩ = some (.slice A1 n1 c1) ∧ w'.cell? ⟨w.heap.size, 2, none⟩ = some (.bool s2) ∧ w'.cell? ⟨w.heap.size, 3, none⟩ = some (.slice A2 n2 c2)) ∧ w'.cell? ⟨w.heap.size + 1, 0, none⟩ = some (.bool s3) ∧ w'.cell? ⟨w.heap.size + 1, 1, none⟩ = some (.slice A3 n3 c3) ∧ w'.cell? ⟨w.heap.size + 1, 2, none⟩ = some (.bool s4) ∧ w'.cell? ⟨w.heap.size + 1, 3, none⟩ = some (.slice A4 n4 c4)) (w'.alloc o)) := Lib.hid (by
    rintro w' o ⟨⟨z0, z1, z2, z3⟩, z4, z5, z6, z7⟩
    exact ⟨⟨alloc_keep _ z0, alloc_keep _ z1, alloc_keep _ z2, alloc_keep _ z3⟩, alloc_keep _ z4, alloc_keep _ z5, alloc_keep _ z6, alloc_keep _ z7⟩)
  refine region_goes (n := 16) (fun w' => (w'.cell? ⟨w.heap.size, 0, none⟩ = some (.bool s1) ∧ w'.cell? ⟨w.heap.size, 1, none⟩ = some (.slice A1 n1 c1) ∧ w'.cell? ⟨w.heap.size, 2, none⟩ = some (.bool s2) ∧ w'.cell? ⟨w.heap.size, 3, none⟩ = some (.slice A2 n2 c2)) ∧ w'.cell? ⟨w.heap.size + 1, 0, none⟩ = some (.bool s3) ∧ w'.cell? ⟨w.heap.size + 1, 1, none⟩ = some (.slice A3 n3 c3) ∧ w'.cell? ⟨w.heap.size + 1, 2, none⟩ = some (.bool s4) ∧ w'.cell? ⟨w.heap.size + 1, 3, none⟩ = some (.slice A4 n4 c4)) [14, 15] (by kernel_rfl) rfl ?_
  refine goes_takeE (i := 0) (E := [14, 15]) (v := .agg #[.bool s1, .slice A1 n1 c1, .bool s2, .slice A2 n2 c2]) rfl (by kernel_rfl) rfl (fun _ _ _ h => h) (by intro w' hw'; obtain ⟨⟨z0, z1, z2, z3⟩, z4, z5, z6, z7⟩ := hw'; go_simp) HC.out ?_
  refine goes_takeE (i := 1) (E := [14, 15]) (v := .agg #[.bool s1, .slice A1 n1 c1, .bool s2, .slice A2 n2 c2]) rfl (by kernel_rfl) rfl (fun _ _ _ h => h) (by intro w' hw'; obtain ⟨⟨z0, z1, z2, z3⟩, z4, z5, z6, z7⟩ := hw'; go_simp) HC.out ?_
  refine goes_takeE (i := 3) (E := [14, 15]) (v := .int .i64 m) rfl (by kernel_rfl) rfl (fun _ _ _ h => h) (by intro w' hw'; obtain ⟨⟨z0, z1, z2, z3⟩, z4, z5, z6, z7⟩ := hw'; go_simp) HC.out ?_
  refine goes_takeE (i := 6) (E := [8, 10, 11, 14, 15]) (v := .agg #[.bool s3, .slice A3 n3 c3, .bool s4, .slice A4 n4 c4]) rfl (by kernel_rfl) rfl (fun _ _ _ h => h) (by intro w' hw'; obtain ⟨⟨z0, z1, z2, z3⟩, z4, z5, z6, z7⟩ := hw'; go_simp) HC.out ?_
  refine goes_takeE (i := 7) (E := [8, 10, 11, 14, 15]) (v := .agg #[.bool s3, .slice A3 n3 c3, .bool s4, .slice A4 n4 c4]) rfl (by kernel_rfl) rfl (fun _ _ _ h => h) (by intro w' hw'; obtain ⟨⟨z0, z1, z2, z3⟩, z4, z5, z6, z7⟩ := hw'; go_simp) HC.out ?_
  refine goes_takeE (i := 9) (E := [10, 11, 14, 15]) (v := .int .i64 n) rfl (by kernel_rfl) rfl (fun _ _ _ h => h) (by intro w' hw'; obtain ⟨⟨z0, z1, z2, z3⟩, z4, z5, z6, z7⟩ := hw'; go_simp) HC.out ?_
  have HBZ : Hid (Below W.heap.size W W.drew) := Lib.hid (Below.refl _ _).drew
  refine flo_begin2 (vA := undef) (vB := undef) (iA := 12) (iB := 13) (D0 := w.heap.size + 2) (t := 41) (z := #[.bool false, .slice none 0 0, .bool false, .slice none 0 0]) (some 10) (some 11) (by kernel_rfl) HC.out ?_
  refine flo_call (i := 2) rfl rfl rfl rfl rfl (by intro a w; go_simp) (by intro a w; go_simp) (by intro _ _ _; kernel_rfl) (by intro _ _ _; kernel_rfl) HSA.out (by have := HBZ.out.size; omega) (by decide) (by decide) (by decide) (by kernel_rfl) (by kernel_rfl) (by kernel_rfl) (by kernel_rfl) ?_
  intro vA vB ua hua hsa
  have HUa : Hid (Below W.heap.size W ua) := Lib.hid (below_to HBZ.out hua HBZ.out.size)
  have HVa : Hid (Below w.heap.size w ua) := Lib.hid (below_to HBW.out HUa.out HBW.out.size)
  go_wp2_with (go_at_call 38; go_loud (with_reducible refine (rmulH h1 h1 (below_to b1 HVa.out b1.size) (below_to b1 HVa.out b1.size) k10 k10 (by omega)).mono ?_; rintro e wa ⟨hba, pa, Pa, ia, ja, qa, Qa, ka, la, rfl, hra⟩))
  have HRa := Lib.hid hra
  have HBa : Hid (Below W.heap.size W wa) := Lib.hid (below_to HUa.out hba HUa.out.size)
  have HSa := Lib.hid (below_to hua hba hua.size)
  have HXa := Lib.hid (HXW.out.below HBa.out HXW.out.lt)
  have HYa := Lib.hid (HYW.out.below HBa.out HYW.out.lt)
  refine behind_ok ⟨⟨HXa.out.four4, HYa.out.four4⟩, hba, by kernel_rfl, ?_⟩
  clear hba hra hsa hua
  refine flo_call (i := 4) rfl rfl rfl rfl rfl (by intro a w; go_simp) (by intro a w; go_simp) (by intro _ _ _; kernel_rfl) (by intro _ _ _; kernel_rfl) HSA.out (by have := HBa.out.size; omega) (by decide) (by decide) (by decide) (by kernel_rfl) (by kernel_rfl) (by kernel_rfl) (by kernel_rfl) ?_
  intro vA vB ub hub hsb
  have HUb : Hid (Below W.heap.size W ub) := Lib.hid (below_to HBa.out hub HBa.out.size)
  have HVb : Hid (Below w.heap.size w ub) := Lib.hid (below_to HBW.out HUb.out HBW.out.size)
  go_wp2_with (go_at_call 30; go_loud (with_reducible refine (rwhole2H m _ (by omega) m1).mono ?_; rintro e wb ⟨hbb, pb, Pb, ib, jb, qb, Qb, kb, lb, rfl, hrb⟩))
  have HRb := Lib.hid hrb
  have HBb : Hid (Below W.heap.size W wb) := Lib.hid (below_to HUb.out hbb HUb.out.size)
  have HSb := Lib.hid (below_to hub hbb hub.size)
  have HXb := Lib.hid (HXW.out.below HBb.out HXW.out.lt)
  have HYb := Lib.hid (HYW.out.below HBb.out HYW.out.lt)
  refine behind_ok ⟨⟨HXb.out.four4, HYb.out.four4⟩, hbb, by kernel_rfl, ?_⟩
  clear hbb hrb hsb hub
  refine flo_call (i := 5) rfl rfl rfl rfl rfl (by intro a w; go_simp) (by intro a w; go_simp) (by intro _ _ _; kernel_rfl) (by intro _ _ _; kernel_rfl) HSA.out (by have := HBb.out.size; omega) (by decide) (by decide) (by decide) (by kernel_rfl) (by kernel_rfl) (by kernel_rfl) (by kernel_rfl) ?_
  intro vA vB uc huc hsc
  have HUc : Hid (Below W.heap.size W uc) := Lib.hid (below_to HBb.out huc HBb.out.size)
  have HVc : Hid (Below w.heap.size w uc) := Lib.hid (below_to HBW.out HUc.out HBW.out.size)
  go_wp2_with (go_at_call 38; go_loud (with_reducible refine (rmulH HRa.out HRb.out (below_to HSb.out huc HSb.out.size) huc (by omega) (by omega) (by omega)).mono ?_; rintro e wc ⟨hbc, pc, Pc, ic, jc, qc, Qc, kc, lc, rfl, hrc⟩))
  have HRc := Lib.hid hrc
  have HBc : Hid (Below W.heap.size W wc) := Lib.hid (below_to HUc.out hbc HUc.out.size)
  have HSc := Lib.hid (below_to huc hbc huc.size)
  have HXc := Lib.hid (HXW.out.below HBc.out HXW.out.lt)
  have HYc := Lib.hid (HYW.out.below HBc.out HYW.out.lt)
  refine behind_ok ⟨⟨HXc.out.four4, HYc.out.four4⟩, hbc, by kernel_rfl, ?_⟩
  clear hbc hrc hsc huc
  refine flo_call (i := 8) rfl rfl rfl rfl rfl (by intro a w; go_simp) (by intro a w; go_simp) (by intro _ _ _; kernel_rfl) (by intro _ _ _; kernel_rfl) HSA.out (by have := HBc.out.size; omega) (by decide) (by decide) (by decide) (by kernel_rfl) (by kernel_rfl) (by kernel_rfl) (by kernel_rfl) ?_
  intro vA vB ud hud hsd
  have HUd : Hid (Below W.heap.size W ud) := Lib.hid (below_to HBc.out hud HBc.out.size)
  have HVd : Hid (Below w.heap.size w ud) := Lib.hid (below_to HBW.out HUd.out HBW.out.size)
  go_wp2_with (go_at_call 38; go_loud (with_reducible refine (rmulH h2 h2 (below_to b2 HVd.out b2.size) (below_to b2 HVd.out b2.size) k20 k20 (by omega)).mono ?_; rintro e wd ⟨hbd, pd, Pd, id, jd, qd, Qd, kd, ld, rfl, hrd⟩))
  have HRd := Lib.hid hrd
  have HBd : Hid (Below W.heap.size W wd) := Lib.hid (below_to HUd.out hbd HUd.out.size)
  have HSd := Lib.hid (below_to hud hbd hud.size)
  have HXd := Lib.hid (HXW.out.below HBd.out HXW.out.lt)
  have HYd := Lib.hid (HYW.out.below HBd.out HYW.out.lt)
  refine behind_ok ⟨⟨HXd.out.four4, HYd.out.four4⟩, hbd, by kernel_rfl, ?_⟩
  clear hbd hrd hsd hud
  refine flo_call (i := 10) rfl rfl rfl rfl rfl (by intro a w; go_simp) (by intro a w; go_simp) (by intro _ _ _; kernel_rfl) (by intro _ _ _; kernel_rfl) HSA.out (by have := HBd.out.size; omega) (by decide) (by decide) (by decide) (by kernel_rfl) (by kernel_rfl) (by kernel_rfl) (by kernel_rfl) ?_
  intro vA vB ug hug hsg
  have HUg : Hid (Below W.heap.size W ug) := Lib.hid (below_to HBd.out hug HBd.out.size)
  have HVg : Hid (Below w.heap.size w ug) := Lib.hid (below_to HBW.out HUg.out HBW.out.size)
  go_wp2_with (go_at_call 30; go_loud (with_reducible refine (rwhole2H n _ (by omega) n1').mono ?_; rintro e wg ⟨hbg, pg, Pg, ig, jg, qg, Qg, kg, lg, rfl, hrg⟩))
  have HRg := Lib.hid hrg
  have HBg : Hid (Below W.heap.size W wg) := Lib.hid (below_to HUg.out hbg HUg.out.size)
  have HSg := Lib.hid (below_to hug hbg hug.size)
  have HXg := Lib.hid (HXW.out.below HBg.out HXW.out.lt)
  have HYg := Lib.hid (HYW.out.below HBg.out HYW.out.lt)
  refine behind_ok ⟨⟨HXg.out.four4, HYg.out.four4⟩, hbg, by kernel_rfl, ?_⟩
  clear hbg hrg hsg hug
  refine flo_call (i := 11) rfl rfl rfl rfl rfl (by intro a w; go_simp) (by intro a w; go_simp) (by intro _ _ _; kernel_rfl) (by intro _ _ _; kernel_rfl) HSA.out (by have := HBg.out.size; omega) (by decide) (by decide) (by decide) (by kernel_rfl) (by kernel_rfl) (by kernel_rfl) (by kernel_rfl) ?_
  intro vA vB uv huv hsv
  have HUv : Hid (Below W.heap.size W uv) := Lib.hid (below_to HBg.out huv HBg.out.size)
  have HVv : Hid (Below w.heap.size w uv) := Lib.hid (below_to HBW.out HUv.out HBW.out.size)
  go_wp2_with (go_at_call 38; go_loud (with_reducible refine (rmulH HRd.out HRg.out (below_to HSg.out huv HSg.out.size) huv (by omega) (by omega) (by omega)).mono ?_; rintro e wv ⟨hbv, pv, Pv, iv, jv, qv, Qv, kv, lv, rfl, hrv⟩))
  have HRv := Lib.hid hrv
  have HBv : Hid (Below W.heap.size W wv) := Lib.hid (below_to HUv.out hbv HUv.out.size)
  have HSv := Lib.hid (below_to huv hbv huv.size)
  have HXv := Lib.hid (HXW.out.below HBv.out HXW.out.lt)
  have HYv := Lib.hid (HYW.out.below HBv.out HYW.out.lt)
  refine behind_ok ⟨⟨HXv.out.four4, HYv.out.four4⟩, hbv, by kernel_rfl, ?_⟩
  clear hbv hrv hsv huv
  have HRC := Lib.hid (HRc.out.later (below_to HSd.out (below_to HSg.out HSv.out HSg.out.size) HSd.out.size))
  have HRF := HRv
  clear HRa HRb HRc HRd HRg HRv HSa HSb HSc HSd HSg HSv HXa HXb HXc HXd HXg HYa HYb HYc HYd HYg HUa HUb HUc HUd HUg HUv HVa HVb HVc HVd HVg HVv
  refine flo_end rfl rfl rfl rfl (by intro a w; go_simp) (by intro a w; go_simp) (by intro _ _ _; kernel_rfl) (by intro _ _ _; kernel_rfl) HSA.out (by have := HBv.out.size; omega) (by decide) (by kernel_rfl) (by kernel_rfl) (by kernel_rfl) ?_
  intro gA gB u hu hgA hgB hne kA kB hsu
  have HBU : Hid (Below w.heap.size w u) := Lib.hid (below_to HBW.out (below_to HBv.out hu HBv.out.size) HBW.out.size)
  have HXU := Lib.hid (HXv.out.below hu HXv.out.lt)
  have HYU := Lib.hid (HYv.out.below hu HYv.out.lt)
  have HRC2 := Lib.hid (HRC.out.later hu)
  have HRF2 := Lib.hid (HRF.out.later hu)
  have HKA := Lib.hid kA
  have HKB := Lib.hid kB
  clear HRC HRF HBv HXv HYv hu hsu HBa HBb HBc HBd HBg HBZ HC HSA
  obtain ⟨x0, x1, x2, x3⟩ := kA.four4
  have f0 := kA.frozen 0
  have f1 := kA.frozen 1
  have f2 := kA.frozen 2
  have f3 := kA.frozen 3
  clear kA kB
  refine goes_last (i := 14) rfl (by kernel_rfl) (by kernel_rfl) ?_
  go_wp2_with fail
  obtain ⟨V, hV, hVb, hVk, hVr, hVo, hVs⟩ := stored_over HBU.out (show w.heap.size ≤ gA by omega) HKA.out HRC2.out
  rw [← hV]
  refine behind_ok ?_
  have HVF := Lib.hid (HRF2.out.stored HKA.out (fun p hp => by rw [hV]; exact set_four (o1 := 0) (o2 := 1) (o3 := 2) (o4 := 3) _ _ _ _ p hp) hVs)
  have HVX := Lib.hid (hVo _ _ _ (show w.heap.size ≠ gA by omega) HXU.out)
  have HVY := Lib.hid (hVo _ _ _ (show w.heap.size + 1 ≠ gA by omega) HYU.out)
  have HVKB := Lib.hid (hVo _ _ _ hne.symm HKB.out)
  have HVB := Lib.hid hVb
  have HVK := Lib.hid hVk
  have HVR := Lib.hid hVr
  clear hV hVb hVk hVr hVo hVs f0 f1 f2 f3 x0 x1 x2 x3
  obtain ⟨x0, x1, x2, x3⟩ := HVKB.out.four4
  have f0 := HVKB.out.frozen 0
  have f1 := HVKB.out.frozen 1
  have f2 := HVKB.out.frozen 2
  have f3 := HVKB.out.frozen 3
  refine goes_last (i := 15) rfl (by kernel_rfl) (by kernel_rfl) ?_
  go_wp2_with fail
  obtain ⟨U, hU, hUb, hUk, hUr, hUo, hUs⟩ := stored_over HVB.out (show w.heap.size ≤ gB by omega) HVKB.out HVF.out
  rw [← hU]
  refine behind_ok (goes_done (by kernel_rfl) ?_)
  have HRU := Lib.hid (HVR.out.stored HVKB.out (fun p hp => by rw [hU]; exact set_four (o1 := 0) (o2 := 1) (o3 := 2) (o4 := 3) _ _ _ _ p hp) hUs)
  have HFU := Lib.hid hUr
  have HXU' := Lib.hid (hUo _ _ _ (show w.heap.size ≠ gB by omega) HVX.out)
  have HYU' := Lib.hid (hUo _ _ _ (show w.heap.size + 1 ≠ gB by omega) HVY.out)
  have HAU := Lib.hid (hUo _ _ _ hne HVK.out)
  have HKU := Lib.hid hUk
  have HBU' := Lib.hid hUb
  clear hU hUb hUk hUr hUo hUs f0 f1 f2 f3 x0 x1 x2 x3
  clear HVF HVX HVY HVKB HVB HVK HVR HBU HXU HYU HRC2 HRF2 HKA HKB HXW HYW HBW
  have HBU := HBU'
  have HXU := HXU'
  have HYU := HYU'
  clear HBU' HXU' HYU'
  obtain ⟨a0, a1, a2, a3⟩ := HXU.out.four4
  by_cases hx : x.num < 0
  · have hC1 := sign_neg hx
    have e1 : -(x * x * (m : Rat)) = sqs x * (m : Rat) := by rw [← sqs_ref, if_pos hx]
    clear hx
    go_upto_region 5 with (go_at_call 77; go_loud (with_reducible refine (rsignOfH h1 (below_to b1 HBU.out b1.size) hC1).mono ?_; rintro e ws ⟨hbs, rfl⟩; have HBs := Lib.hid (below_to HBU.out hbs HBU.out.size); have HYs := Lib.hid (HYU.out.below hbs HYU.out.lt); have HAs := Lib.hid (HAU.out.below hbs HAU.out.lt); have HKs := Lib.hid (HKU.out.below hbs HKU.out.lt); have HRs := Lib.hid (HRU.out.later hbs); have HFs := Lib.hid (HFU.out.later hbs); clear hbs))
    clear a0 a1 a2 a3
    obtain ⟨x0, x1, x2, x3⟩ := HAs.out.four4; have f0 := HAs.out.frozen 0; have f1 := HAs.out.frozen 1; have f2 := HAs.out.frozen 2; have f3 := HAs.out.frozen 3
    go_upto_region 6 with (go_at_call 76; go_loud (with_reducible refine (rnegH HRs.out (Below.refl _ _) (by omega) (by omega)).mono ?_; rintro e wo ⟨hbo, po, Po, io, jo, qo, Qo, ko, lo, rfl, hro⟩; have HBo := Lib.hid (below_to HBs.out hbo HBs.out.size); have HYo := Lib.hid (HYs.out.below hbo HYs.out.lt); have HAo := Lib.hid (HAs.out.below hbo HAs.out.lt); have HKo := Lib.hid (HKs.out.below hbo HKs.out.lt); have HRo := Lib.hid (HRs.out.later hbo); have HFo := Lib.hid (HFs.out.later hbo); have HGo := Lib.hid hro; clear hbo hro x0 x1 x2 x3 f0 f1 f2 f3; obtain ⟨x0, x1, x2, x3⟩ := HAo.out.four4; have f0 := HAo.out.frozen 0; have f1 := HAo.out.frozen 1; have f2 := HAo.out.frozen 2; have f3 := HAo.out.frozen 3))
    obtain ⟨T, hT, hTb, hTk, hTr, hTo, hTs⟩ := stored_over HBo.out (show w.heap.size ≤ gA by omega) HAo.out HGo.out
    rw [← hT]
    have HFT := Lib.hid (HFo.out.stored HAo.out (fun p hp => by rw [hT]; exact set_four (o1 := 0) (o2 := 1) (o3 := 2) (o4 := 3) _ _ _ _ p hp) hTs)
    have HKT := Lib.hid (hTo _ _ _ hne.symm HKo.out)
    have HYT := Lib.hid (hTo _ _ _ (show w.heap.size + 1 ≠ gA by omega) HYo.out)
    have HAT := Lib.hid hTk
    have HRT := Lib.hid hTr
    have HBT := Lib.hid hTb
    clear hT hTb hTk hTr hTo hTs f0 f1 f2 f3 x0 x1 x2 x3
    obtain ⟨a0, a1, a2, a3⟩ := HYT.out.four4
    by_cases hy : y.num < 0
    · have hC2 := sign_neg hy
      have e2 : -(y * y * (n : Rat)) = sqs y * (n : Rat) := by rw [← sqs_ref, if_pos hy]
      clear hy
      go_upto_region 7 with (go_at_call 77; go_loud (with_reducible refine (rsignOfH h2 (below_to b2 HBT.out b2.size) hC2).mono ?_; rintro e wi ⟨hbi, rfl⟩; have HBi := Lib.hid (below_to HBT.out hbi HBT.out.size); have HYi := Lib.hid (HYT.out.below hbi HYT.out.lt); have HAi := Lib.hid (HAT.out.below hbi HAT.out.lt); have HKi := Lib.hid (HKT.out.below hbi HKT.out.lt); have HRi := Lib.hid (HRT.out.later hbi); have HFi := Lib.hid (HFT.out.later hbi); clear hbi))
      clear a0 a1 a2 a3
      obtain ⟨x0, x1, x2, x3⟩ := HKi.out.four4; have f0 := HKi.out.frozen 0; have f1 := HKi.out.frozen 1; have f2 := HKi.out.frozen 2; have f3 := HKi.out.frozen 3
      go_upto_region 8 with (go_at_call 76; go_loud (with_reducible refine (rnegH HFi.out (Below.refl _ _) (by omega) (by omega)).mono ?_; rintro e wj ⟨hbj, pj, Pj, ij, jj, qj, Qj, kj, lj, rfl, hrj⟩; have HBj := Lib.hid (below_to HBi.out hbj HBi.out.size); have HYj := Lib.hid (HYi.out.below hbj HYi.out.lt); have HAj := Lib.hid (HAi.out.below hbj HAi.out.lt); have HKj := Lib.hid (HKi.out.below hbj HKi.out.lt); have HRj := Lib.hid (HRi.out.later hbj); have HFj := Lib.hid (HFi.out.later hbj); have HGj := Lib.hid hrj; clear hbj hrj x0 x1 x2 x3 f0 f1 f2 f3; obtain ⟨x0, x1, x2, x3⟩ := HKj.out.four4; have f0 := HKj.out.frozen 0; have f1 := HKj.out.frozen 1; have f2 := HKj.out.frozen 2; have f3 := HKj.out.frozen 3))
      obtain ⟨Z, hZ, hZb, hZk, hZr, hZo, hZs⟩ := stored_over HBj.out (show w.heap.size ≤ gB by omega) HKj.out HGj.out
      rw [← hZ]
      have HRZ := Lib.hid (HRj.out.stored HKj.out (fun p hp => by rw [hZ]; exact set_four (o1 := 0) (o2 := 1) (o3 := 2) (o4 := 3) _ _ _ _ p hp) hZs)
      have HAZ := Lib.hid (hZo _ _ _ hne HAj.out)
      have HKZ := Lib.hid hZk
      have HFZ := Lib.hid hZr
      have HBZ := Lib.hid hZb
      clear hZ hZb hZk hZr hZo hZs f0 f1 f2 f3 x0 x1 x2 x3
      obtain ⟨x0, x1, x2, x3⟩ := HAZ.out.four4
      obtain ⟨y0, y1, y2, y3⟩ := HKZ.out.four4
      have hRR := HRZ.out
      have hFF := HFZ.out
      rw [e1] at hRR
      rw [e2] at hFF
      have HRR := Lib.hid hRR
      have HFF := Lib.hid hFF
      clear hRR hFF
      go_wp2_with (go_at_call 42; go_loud (with_reducible refine (rcmpRH HRR.out HFF.out (Below.refl _ _) (Below.refl _ _) (by omega) (by omega) (by omega) (show cmpI (sqs x * (m : Rat) - sqs y * (n : Rat)).num 0 = C by rw [num_sub]; exact HCC.out)).mono ?_; rintro e wz ⟨hbz, rfl⟩; have HZZ := Lib.hid (below_to HBZ.out hbz HBZ.out.size); clear hbz))
      go_ret2
      exact ⟨HZZ.out, rfl⟩
    · have hC3 : ∃ C2, cmpI y.num 0 = C2 := ⟨_, rfl⟩
      obtain ⟨C2, hC2⟩ := hC3
      have hcd : decide (C2 < 0) = false := decide_eq_false (sign_not hy hC2)
      have e2 : y * y * (n : Rat) = sqs y * (n : Rat) := by rw [← sqs_ref, if_neg hy]
      clear hy
      go_upto_region 8 with (go_at_call 77; go_loud (with_reducible refine (rsignOfH h2 (below_to b2 HBT.out b2.size) hC2).mono ?_; rintro e wi ⟨hbi, rfl⟩; have HBi := Lib.hid (below_to HBT.out hbi HBT.out.size); have HYi := Lib.hid (HYT.out.below hbi HYT.out.lt); have HAi := Lib.hid (HAT.out.below hbi HAT.out.lt); have HKi := Lib.hid (HKT.out.below hbi HKT.out.lt); have HRi := Lib.hid (HRT.out.later hbi); have HFi := Lib.hid (HFT.out.later hbi); clear hbi))
      clear a0 a1 a2 a3
      obtain ⟨x0, x1, x2, x3⟩ := HAi.out.four4
      obtain ⟨y0, y1, y2, y3⟩ := HKi.out.four4
      have hRR := HRi.out
      have hFF := HFi.out
      rw [e1] at hRR
      rw [e2] at hFF
      have HRR := Lib.hid hRR
      have HFF := Lib.hid hFF
      clear hRR hFF
      go_wp2_with (go_at_call 42; go_loud (with_reducible refine (rcmpRH HRR.out HFF.out (Below.refl _ _) (Below.refl _ _) (by omega) (by omega) (by omega) (show cmpI (sqs x * (m : Rat) - sqs y * (n : Rat)).num 0 = C by rw [num_sub]; exact HCC.out)).mono ?_; rintro e wz ⟨hbz, rfl⟩; have HZZ := Lib.hid (below_to HBi.out hbz HBi.out.size); clear hbz))
      go_ret2
      exact ⟨HZZ.out, rfl⟩
  · have hC3 : ∃ C1, cmpI x.num 0 = C1 := ⟨_, rfl⟩
    obtain ⟨C1, hC1⟩ := hC3
    have hcd1 : decide (C1 < 0) = false := decide_eq_false (sign_not hx hC1)
    have e1 : x * x * (m : Rat) = sqs x * (m : Rat) := by rw [← sqs_ref, if_neg hx]
    clear hx
    go_upto_region 6 with (go_at_call 77; go_loud (with_reducible refine (rsignOfH h1 (below_to b1 HBU.out b1.size) hC1).mono ?_; rintro e ws ⟨hbs, rfl⟩; have HBs := Lib.hid (below_to HBU.out hbs HBU.out.size); have HYs := Lib.hid (HYU.out.below hbs HYU.out.lt); have HAs := Lib.hid (HAU.out.below hbs HAU.out.lt); have HKs := Lib.hid (HKU.out.below hbs HKU.out.lt); have HRs := Lib.hid (HRU.out.later hbs); have HFs := Lib.hid (HFU.out.later hbs); clear hbs))
    clear a0 a1 a2 a3
    obtain ⟨a0, a1, a2, a3⟩ := HYs.out.four4
    by_cases hy : y.num < 0
    · have hC2 := sign_neg hy
      have e2 : -(y * y * (n : Rat)) = sqs y * (n : Rat) := by rw [← sqs_ref, if_pos hy]
      clear hy
      go_upto_region 7 with (go_at_call 77; go_loud (with_reducible refine (rsignOfH h2 (below_to b2 HBs.out b2.size) hC2).mono ?_; rintro e wi ⟨hbi, rfl⟩; have HBi := Lib.hid (below_to HBs.out hbi HBs.out.size); have HYi := Lib.hid (HYs.out.below hbi HYs.out.lt); have HAi := Lib.hid (HAs.out.below hbi HAs.out.lt); have HKi := Lib.hid (HKs.out.below hbi HKs.out.lt); have HRi := Lib.hid (HRs.out.later hbi); have HFi := Lib.hid (HFs.out.later hbi); clear hbi))
      clear a0 a1 a2 a3
      obtain ⟨x0, x1, x2, x3⟩ := HKi.out.four4; have f0 := HKi.out.frozen 0; have f1 := HKi.out.frozen 1; have f2 := HKi.out.frozen 2; have f3 := HKi.out.frozen 3
      go_upto_region 8 with (go_at_call 76; go_loud (with_reducible refine (rnegH HFi.out (Below.refl _ _) (by omega) (by omega)).mono ?_; rintro e wj ⟨hbj, pj, Pj, ij, jj, qj, Qj, kj, lj, rfl, hrj⟩; have HBj := Lib.hid (below_to HBi.out hbj HBi.out.size); have HYj := Lib.hid (HYi.out.below hbj HYi.out.lt); have HAj := Lib.hid (HAi.out.below hbj HAi.out.lt); have HKj := Lib.hid (HKi.out.below hbj HKi.out.lt); have HRj := Lib.hid (HRi.out.later hbj); have HFj := Lib.hid (HFi.out.later hbj); have HGj := Lib.hid hrj; clear hbj hrj x0 x1 x2 x3 f0 f1 f2 f3; obtain ⟨x0, x1, x2, x3⟩ := HKj.out.four4; have f0 := HKj.out.frozen 0; have f1 := HKj.out.frozen 1; have f2 := HKj.out.frozen 2; have f3 := HKj.out.frozen 3))
      obtain ⟨Z, hZ, hZb, hZk, hZr, hZo, hZs⟩ := stored_over HBj.out (show w.heap.size ≤ gB by omega) HKj.out HGj.out
      rw [← hZ]
      have HRZ := Lib.hid (HRj.out.stored HKj.out (fun p hp => by rw [hZ]; exact set_four (o1 := 0) (o2 := 1) (o3 := 2) (o4 := 3) _ _ _ _ p hp) hZs)
      have HAZ := Lib.hid (hZo _ _ _ hne HAj.out)
      have HKZ := Lib.hid hZk
      have HFZ := Lib.hid hZr
      have HBZ := Lib.hid hZb
      clear hZ hZb hZk hZr hZo hZs f0 f1 f2 f3 x0 x1 x2 x3
      obtain ⟨x0, x1, x2, x3⟩ := HAZ.out.four4
      obtain ⟨y0, y1, y2, y3⟩ := HKZ.out.four4
      have hRR := HRZ.out
      have hFF := HFZ.out
      rw [e1] at hRR
      rw [e2] at hFF
      have HRR := Lib.hid hRR
      have HFF := Lib.hid hFF
      clear hRR hFF
      go_wp2_with (go_at_call 42; go_loud (with_reducible refine (rcmpRH HRR.out HFF.out (Below.refl _ _) (Below.refl _ _) (by omega) (by omega) (by omega) (show cmpI (sqs x * (m : Rat) - sqs y * (n : Rat)).num 0 = C by rw [num_sub]; exact HCC.out)).mono ?_; rintro e wz ⟨hbz, rfl⟩; have HZZ := Lib.hid (below_to HBZ.out hbz HBZ.out.size); clear hbz))
      go_ret2
      exact ⟨HZZ.out, rfl⟩
    · have hC3 : ∃ C2, cmpI y.num 0 = C2 := ⟨_, rfl⟩
      obtain ⟨C2, hC2⟩ := hC3
      have hcd : decide (C2 < 0) = false := decide_eq_false (sign_not hy hC2)
      have e2 : y * y * (n : Rat) = sqs y * (n : Rat) := by rw [← sqs_ref, if_neg hy]
      clear hy
      go_upto_region 8 with (go_at_call 77; go_loud (with_reducible refine (rsignOfH h2 (below_to b2 HBs.out b2.size) hC2).mono ?_; rintro e wi ⟨hbi, rfl⟩; have HBi := Lib.hid (below_to HBs.out hbi HBs.out.size); have HYi := Lib.hid (HYs.out.below hbi HYs.out.lt); have HAi := Lib.hid (HAs.out.below hbi HAs.out.lt); have HKi := Lib.hid (HKs.out.below hbi HKs.out.lt); have HRi := Lib.hid (HRs.out.later hbi); have HFi := Lib.hid (HFs.out.later hbi); clear hbi))
      clear a0 a1 a2 a3
      obtain ⟨x0, x1, x2, x3⟩ := HAi.out.four4
      obtain ⟨y0, y1, y2, y3⟩ := HKi.out.four4
      have hRR := HRi.out
      have hFF := HFi.out
      rw [e1] at hRR
      rw [e2] at hFF
      have HRR := Lib.hid hRR
      have HFF := Lib.hid hFF
      clear hRR hFF
      go_wp2_with (go_at_call 42; go_loud (with_reducible refine (rcmpRH HRR.out HFF.out (Below.refl _ _) (Below.refl _ _) (by omega) (by omega) (by omega) (show cmpI (sqs x * (m : Rat) - sqs y * (n : Rat)).num 0 = C by rw [num_sub]; exact HCC.out)).mono ?_; rintro e wz ⟨hbz, rfl⟩; have HZZ := Lib.hid (below_to HBi.out hbz HBi.out.size); clear hbz))
      go_ret2
      exact ⟨HZZ.out, rfl⟩
end Go.Proofs.YtfjcbmdeaiaeiaaGreat

/- The walk of ExactRoots. -/
namespace Go.Proofs.YtfjcbmdeaiaeiaaGreat
open Go Go.RowKit

theorem cmpQ_bd (x y : Rat) : -1 ≤ cmpQ x y ∧ cmpQ x y ≤ 1 := by
  unfold cmpQ
  split
  · omega
  · split <;> omega
/- The cells of the three boxes of the state %1 as facts. -/
/- An arm: the call of %1 by the contract %2 that returns numbers only; from the state %3 to %4. -/
set_option maxRecDepth 100000 in
set_option maxHeartbeats 1600000 in
theorem lawRoots_any (sx tx sy ty : Bool) (X P Y Q : Option Addr) (nx cx mx dx ny cy my dy : Nat) (lx px ly py : List Nat) (m n : Int) (w : World) (hx : Lim w w.heap.size X nx cx lx) (hp : Lim w w.heap.size P mx dx px) (hy : Lim w w.heap.size Y ny cy ly) (hq : Lim w w.heap.size Q my dy py)
    (m1 : -9223372036854775808 ≤ m) (m2 : m ≤ 9223372036854775807) (n1 : -9223372036854775808 ≤ n) (n2 : n ≤ 9223372036854775807) :
    Calls Tryz.prog 6 #[.agg #[.bool sx, .slice X nx cx, .bool tx, .slice P mx dx], .agg #[.bool sy, .slice Y ny cy, .bool ty, .slice Q my dy], .agg #[.int .i64 m, .int .i64 n]] w fun e w' => Below w.heap.size w w' ∧ e = .returned (.bool true) := by
  have SHO : Hid (∀ g (w' : World), Bk w' g 41 #[.bool sx, .slice X nx cx, .bool tx, .slice P mx dx, .bool sy, .slice Y ny cy, .bool ty, .slice Q my dy] → Calls Tryz.prog 25 #[.slice (some ⟨g, 0, none⟩) 2 2] w' fun e w'' => w' = w'' ∧ e = .returned (.bool (decide (nx ≤ 3) && decide (mx ≤ 3) && decide (ny ≤ 3) && decide (my ≤ 3)))) := Lib.hid fun g w' h => brief2_any _ _ _ _ _ _ _ _ _ _ _ _ _ _ _ _ g w' h
  obtain ⟨sbb, hsb⟩ : ∃ b, (decide (nx ≤ 3) && decide (mx ≤ 3) && decide (ny ≤ 3) && decide (my ≤ 3)) = b := ⟨_, rfl⟩
  rw [hsb] at SHO
  cases sbb
  · clear hsb hx hy hp hq
    go_enter Tryz.func6, Tryz.ntmps6
    go_wp2_with (first
        | (go_at_call 25; with_reducible refine (SHO.out _ _ ?_).mono ?_; (focus (exact (by repeat (first | with_reducible assumption | with_reducible exact Bk.at_ (by first | (simp; done) | omega) | with_reducible refine Bk.alloc ?_ _ | with_reducible refine Bk.drew ?_ | with_reducible refine Bk.drewN ?_ _ | with_reducible refine Bk.step (by with_reducible assumption) ?_ (by first | omega | (simp <;> omega)))))); rintro e w1 ⟨rfl, rfl⟩)
        | (go_at_call 9; with_reducible refine (awake_true _).mono ?_; rintro e w2 ⟨hb2, rfl⟩))
    go_ret
    exact ⟨(by repeat (first | with_reducible exact Below.refl _ _ | with_reducible assumption | with_reducible refine Below.drew ?_ | with_reducible refine Below.drewN ?_ _ | with_reducible refine Below.alloc2 ?_ _ | with_reducible refine Below.alloc ?_ (by first | omega | (simp <;> omega)) _ | with_reducible refine Below.setCell ?_ (by first | omega | (simp <;> omega)) _ | with_reducible refine Below.step2 (by with_reducible assumption) ?_ | with_reducible refine Below.step (by with_reducible assumption) ?_ (by first | omega | (simp <;> omega)))), rfl⟩
  simp only [Bool.and_eq_true, decide_eq_true_eq] at hsb
  obtain ⟨⟨⟨q1, q2⟩, q3⟩, q4⟩ := hsb
  have ix : RatH w sx X nx cx tx P mx dx (frac (sg sx (val lx)) (sg tx (val px))) 3 false := ⟨⟨lx, px, fun w' hb => hx.below hb (Nat.le_refl _) hb.size, fun w' hb => hp.below hb (Nat.le_refl _) hb.size, rfl, fun h => by cases h⟩, q1, q2⟩
  have iy : RatH w sy Y ny cy ty Q my dy (frac (sg sy (val ly)) (sg ty (val py))) 3 false := ⟨⟨ly, py, fun w' hb => hy.below hb (Nat.le_refl _) hb.size, fun w' hb => hq.below hb (Nat.le_refl _) hb.size, rfl, fun h => by cases h⟩, q3, q4⟩
  generalize frac (sg sx (val lx)) (sg tx (val px)) = x at ix
  generalize frac (sg sy (val ly)) (sg ty (val py)) = y at iy
  clear hx hy hp hq q1 q2 q3 q4
  go_enter Tryz.func6, Tryz.ntmps6
  go_upto_region 3 with (go_at_call 25; with_reducible refine (SHO.out _ _ ?_).mono ?_; (focus (exact (by repeat (first | with_reducible assumption | with_reducible exact Bk.at_ (by first | (simp; done) | omega) | with_reducible refine Bk.alloc ?_ _ | with_reducible refine Bk.drew ?_ | with_reducible refine Bk.drewN ?_ _ | with_reducible refine Bk.step (by with_reducible assumption) ?_ (by first | omega | (simp <;> omega)))))); rintro e w1 ⟨rfl, rfl⟩)
  obtain ⟨W, hW⟩ : ∃ W, W = ((((w.alloc (.cells #[.bool sx, .slice X nx cx, .bool tx, .slice P mx dx] 41)).alloc (.cells #[.bool sy, .slice Y ny cy, .bool ty, .slice Q my dy] 41)).alloc (.cells #[.int .i64 m, .int .i64 n] 42)).alloc (.cells #[.bool sx, .slice X nx cx, .bool tx, .slice P mx dx, .bool sy, .slice Y ny cy, .bool ty, .slice Q my dy] 41)) := ⟨_, rfl⟩
  have HBW : Hid (Below w.heap.size w W) := Lib.hid (by rw [hW]; exact (by repeat (first | with_reducible exact Below.refl _ _ | with_reducible assumption | with_reducible refine Below.drew ?_ | with_reducible refine Below.drewN ?_ _ | with_reducible refine Below.alloc2 ?_ _ | with_reducible refine Below.alloc ?_ (by first | omega | (simp <;> omega)) _ | with_reducible refine Below.setCell ?_ (by first | omega | (simp <;> omega)) _ | with_reducible refine Below.step2 (by with_reducible assumption) ?_ | with_reducible refine Below.step (by with_reducible assumption) ?_ (by first | omega | (simp <;> omega)))))
  have HXW : Hid (Bk W w.heap.size 41 #[.bool sx, .slice X nx cx, .bool tx, .slice P mx dx]) := Lib.hid (by rw [hW]; exact (by repeat (first | with_reducible assumption | with_reducible exact Bk.at_ (by first | (simp; done) | omega) | with_reducible refine Bk.alloc ?_ _ | with_reducible refine Bk.drew ?_ | with_reducible refine Bk.drewN ?_ _ | with_reducible refine Bk.step (by with_reducible assumption) ?_ (by first | omega | (simp <;> omega)))))
  have HYW : Hid (Bk W (w.heap.size + 1) 41 #[.bool sy, .slice Y ny cy, .bool ty, .slice Q my dy]) := Lib.hid (by rw [hW]; exact (by repeat (first | with_reducible assumption | with_reducible exact Bk.at_ (by first | (simp; done) | omega) | with_reducible refine Bk.alloc ?_ _ | with_reducible refine Bk.drew ?_ | with_reducible refine Bk.drewN ?_ _ | with_reducible refine Bk.step (by with_reducible assumption) ?_ (by first | omega | (simp <;> omega)))))
  have HNW : Hid (Bk W (w.heap.size + 2) 42 #[.int .i64 m, .int .i64 n]) := Lib.hid (by rw [hW]; exact (by repeat (first | with_reducible assumption | with_reducible exact Bk.at_ (by first | (simp; done) | omega) | with_reducible refine Bk.alloc ?_ _ | with_reducible refine Bk.drew ?_ | with_reducible refine Bk.drewN ?_ _ | with_reducible refine Bk.step (by with_reducible assumption) ?_ (by first | omega | (simp <;> omega)))))
  rw [← hW]
  clear hW SHO
  obtain ⟨x0, x1, x2, x3⟩ := HXW.out.four4; obtain ⟨y0, y1, y2, y3⟩ := HYW.out.four4; obtain ⟨z0, z1⟩ := HNW.out.duo
  by_cases hbad : m < 0 ∨ n < 0
  · go_wp2_with (first
      | (go_at_call 9; with_reducible refine (awake_true _).mono ?_; rintro e wd ⟨hbd, rfl⟩; have HBd := Lib.hid (below_to HBc.out hbd HBc.out.size); clear hbd)
      | (go_at_call 45; (with_reducible refine (cmpRoots_bad sx tx sy ty X P Y Q nx cx mx dx ny cy my dy m n _ hbad).mono ?_; rintro e wb ⟨hbb, rfl⟩; have HBb := Lib.hid (below_to HBW.out hbb HBW.out.size); have HXb := Lib.hid (HXW.out.below hbb HXW.out.lt); have HYb := Lib.hid (HYW.out.below hbb HYW.out.lt); have HNb := Lib.hid (HNW.out.below hbb HNW.out.lt); clear hbb; clear x0 x1 x2 x3 y0 y1 y2 y3 z0 z1; obtain ⟨x0, x1, x2, x3⟩ := HXb.out.four4; obtain ⟨y0, y1, y2, y3⟩ := HYb.out.four4; obtain ⟨z0, z1⟩ := HNb.out.duo))
      | (go_at_call 46; (with_reducible refine (refCmpRoots_bad sx tx sy ty X P Y Q nx cx mx dx ny cy my dy m n _ hbad).mono ?_; rintro e wc ⟨hbc, rfl⟩; have HBc := Lib.hid (below_to HBb.out hbc HBb.out.size); have HXc := Lib.hid (HXb.out.below hbc HXb.out.lt); have HYc := Lib.hid (HYb.out.below hbc HYb.out.lt); have HNc := Lib.hid (HNb.out.below hbc HNb.out.lt); clear hbc; clear x0 x1 x2 x3 y0 y1 y2 y3 z0 z1; obtain ⟨x0, x1, x2, x3⟩ := HXc.out.four4; obtain ⟨y0, y1, y2, y3⟩ := HYc.out.four4; obtain ⟨z0, z1⟩ := HNc.out.duo)))
    go_ret
    exact ⟨HBd.out, rfl⟩
  have m0 : 0 ≤ m := by omega
  have n0 : 0 ≤ n := by omega
  obtain ⟨C, hC⟩ : ∃ C, cmpQ (sqs x * (m : Rat)) (sqs y * (n : Rat)) = C := ⟨_, rfl⟩
  have hC2 : cmpQ (sqs y * (n : Rat)) (sqs x * (m : Rat)) = -C := by rw [cmpQ_swap, hC]
  have hCb := cmpQ_bd (sqs x * (m : Rat)) (sqs y * (n : Rat))
  rw [hC] at hCb
  obtain ⟨c1, c2⟩ := hCb
  clear hbad
  go_upto_region 12 with (first
      | (go_at_call 45; (with_reducible refine (cmpRoots_ok ix iy HBW.out HBW.out (by omega) (by omega) m n m0 m2 n0 n2 hC).mono ?_; rintro e wb ⟨hbb, rfl⟩; have HBb := Lib.hid (below_to HBW.out hbb HBW.out.size); have HXb := Lib.hid (HXW.out.below hbb HXW.out.lt); have HYb := Lib.hid (HYW.out.below hbb HYW.out.lt); have HNb := Lib.hid (HNW.out.below hbb HNW.out.lt); clear hbb; clear x0 x1 x2 x3 y0 y1 y2 y3 z0 z1; obtain ⟨x0, x1, x2, x3⟩ := HXb.out.four4; obtain ⟨y0, y1, y2, y3⟩ := HYb.out.four4; obtain ⟨z0, z1⟩ := HNb.out.duo))
      | (go_at_call 46; (with_reducible refine (refCmpRoots_ok ix iy HBb.out HBb.out (by omega) (by omega) m n m0 m2 n0 n2 hC).mono ?_; rintro e wc ⟨hbc, rfl⟩; have HBc := Lib.hid (below_to HBb.out hbc HBb.out.size); have HXc := Lib.hid (HXb.out.below hbc HXb.out.lt); have HYc := Lib.hid (HYb.out.below hbc HYb.out.lt); have HNc := Lib.hid (HNb.out.below hbc HNb.out.lt); clear hbc; clear x0 x1 x2 x3 y0 y1 y2 y3 z0 z1; obtain ⟨x0, x1, x2, x3⟩ := HXc.out.four4; obtain ⟨y0, y1, y2, y3⟩ := HYc.out.four4; obtain ⟨z0, z1⟩ := HNc.out.duo))
      | (go_at_call 45; (with_reducible refine (cmpRoots_ok iy ix HBc.out HBc.out (by omega) (by omega) n m n0 n2 m0 m2 hC2).mono ?_; rintro e wd ⟨hbd, rfl⟩; have HBd := Lib.hid (below_to HBc.out hbd HBc.out.size); have HXd := Lib.hid (HXc.out.below hbd HXc.out.lt); have HYd := Lib.hid (HYc.out.below hbd HYc.out.lt); have HNd := Lib.hid (HNc.out.below hbd HNc.out.lt); clear hbd; clear x0 x1 x2 x3 y0 y1 y2 y3 z0 z1; obtain ⟨x0, x1, x2, x3⟩ := HXd.out.four4; obtain ⟨y0, y1, y2, y3⟩ := HYd.out.four4; obtain ⟨z0, z1⟩ := HNd.out.duo)))
  go_upto_region 13 with (go_at_call 29; go_loud (with_reducible refine (wholePH 0 _ (by omega) (by omega)).mono ?_; rintro e we ⟨hbe, t3, B3, m3, d3, t4, B4, m4, d4, rfl, hre⟩; have HBe := Lib.hid (below_to HBd.out hbe HBd.out.size); have HXe := Lib.hid (HXd.out.below hbe HXd.out.lt); have HYe := Lib.hid (HYd.out.below hbe HYd.out.lt); have HNe := Lib.hid (HNd.out.below hbe HNd.out.lt); have HRe := Lib.hid hre; clear hbe hre; clear x0 x1 x2 x3 y0 y1 y2 y3 z0 z1))
  obtain ⟨V, hV⟩ : ∃ V, V = (we.alloc (.cells #[.bool t3, .slice B3 m3 d3, .bool t4, .slice B4 m4 d4] 41)) := ⟨_, rfl⟩
  have hbV : Below we.heap.size we V := by rw [hV]; exact (by repeat (first | with_reducible exact Below.refl _ _ | with_reducible assumption | with_reducible refine Below.drew ?_ | with_reducible refine Below.drewN ?_ _ | with_reducible refine Below.alloc2 ?_ _ | with_reducible refine Below.alloc ?_ (by first | omega | (simp <;> omega)) _ | with_reducible refine Below.setCell ?_ (by first | omega | (simp <;> omega)) _ | with_reducible refine Below.step2 (by with_reducible assumption) ?_ | with_reducible refine Below.step (by with_reducible assumption) ?_ (by first | omega | (simp <;> omega))))
  have HOV : Hid (Bk V we.heap.size 41 #[.bool t3, .slice B3 m3 d3, .bool t4, .slice B4 m4 d4]) := Lib.hid (by rw [hV]; exact (by repeat (first | with_reducible assumption | with_reducible exact Bk.at_ (by first | (simp; done) | omega) | with_reducible refine Bk.alloc ?_ _ | with_reducible refine Bk.drew ?_ | with_reducible refine Bk.drewN ?_ _ | with_reducible refine Bk.step (by with_reducible assumption) ?_ (by first | omega | (simp <;> omega)))))
  rw [← hV]
  have HBV := Lib.hid (below_to HBe.out hbV HBe.out.size); have HXV := Lib.hid (HXe.out.below hbV HXe.out.lt); have HYV := Lib.hid (HYe.out.below hbV HYe.out.lt); have HNV := Lib.hid (HNe.out.below hbV HNe.out.lt)
  have HIV := Lib.hid (HRe.out.later hbV)
  clear hV hbV HBb HXb HYb HNb HBc HXc HYc HNc HBd HXd HYd HNd HBe HXe HYe HNe HRe HXW HYW HNW
  obtain ⟨x0, x1, x2, x3⟩ := HXV.out.four4; obtain ⟨y0, y1, y2, y3⟩ := HYV.out.four4; obtain ⟨z0, z1⟩ := HNV.out.duo
  obtain ⟨v0, v1, v2, v3⟩ := HOV.out.four4
  obtain ⟨C1, hC1⟩ : ∃ C1, cmpQ x ((0 : Int) : Rat) = C1 := ⟨_, rfl⟩
  obtain ⟨C2, hC2⟩ : ∃ C2, cmpQ y ((0 : Int) : Rat) = C2 := ⟨_, rfl⟩
  by_cases hc1 : C1 < 0
  · have e1 : decide (C1 < 0) = true := decide_eq_true hc1
    clear hc1
    go_wp2_with (first
      | (go_at_call 9; with_reducible refine (awake_true _).mono ?_; rintro e wz ⟨hbz, rfl⟩; have HBz := Lib.hid (below_to HBf.out hbz HBf.out.size); clear hbz)
      | (go_at_call 41; (with_reducible refine (cmpRH ix HIV.out HBV.out (Below.refl _ _) (by omega) (by omega) hC1).mono ?_; rintro e wf ⟨hbf, rfl⟩; have HBf := Lib.hid (below_to HBV.out hbf HBV.out.size); have HXf := Lib.hid (HXV.out.below hbf HXV.out.lt); have HYf := Lib.hid (HYV.out.below hbf HYV.out.lt); have HNf := Lib.hid (HNV.out.below hbf HNV.out.lt); have HOf := Lib.hid (HOV.out.below hbf HOV.out.lt); have HIf := Lib.hid (HIV.out.later hbf); clear hbf v0 v1 v2 v3; clear x0 x1 x2 x3 y0 y1 y2 y3 z0 z1; obtain ⟨x0, x1, x2, x3⟩ := HXf.out.four4; obtain ⟨y0, y1, y2, y3⟩ := HYf.out.four4; obtain ⟨z0, z1⟩ := HNf.out.duo; obtain ⟨v0, v1, v2, v3⟩ := HOf.out.four4)))
    go_ret
    exact ⟨HBz.out, rfl⟩
  have e1 : decide (C1 < 0) = false := decide_eq_false hc1
  by_cases hc2 : C2 < 0
  · have e2 : decide (C2 < 0) = true := decide_eq_true hc2
    clear hc1 hc2
    go_wp2_with (first
      | (go_at_call 9; with_reducible refine (awake_true _).mono ?_; rintro e wz ⟨hbz, rfl⟩; have HBz := Lib.hid (below_to HBg.out hbz HBg.out.size); clear hbz)
      | (go_at_call 41; (with_reducible refine (cmpRH iy HIf.out HBf.out (Below.refl _ _) (by omega) (by omega) hC2).mono ?_; rintro e wg ⟨hbg, rfl⟩; have HBg := Lib.hid (below_to HBf.out hbg HBf.out.size); have HXg := Lib.hid (HXf.out.below hbg HXf.out.lt); have HYg := Lib.hid (HYf.out.below hbg HYf.out.lt); have HNg := Lib.hid (HNf.out.below hbg HNf.out.lt); have HOg := Lib.hid (HOf.out.below hbg HOf.out.lt); have HIg := Lib.hid (HIf.out.later hbg); clear hbg v0 v1 v2 v3; clear x0 x1 x2 x3 y0 y1 y2 y3 z0 z1; obtain ⟨x0, x1, x2, x3⟩ := HXg.out.four4; obtain ⟨y0, y1, y2, y3⟩ := HYg.out.four4; obtain ⟨z0, z1⟩ := HNg.out.duo; obtain ⟨v0, v1, v2, v3⟩ := HOg.out.four4))
      | (go_at_call 41; (with_reducible refine (cmpRH ix HIV.out HBV.out (Below.refl _ _) (by omega) (by omega) hC1).mono ?_; rintro e wf ⟨hbf, rfl⟩; have HBf := Lib.hid (below_to HBV.out hbf HBV.out.size); have HXf := Lib.hid (HXV.out.below hbf HXV.out.lt); have HYf := Lib.hid (HYV.out.below hbf HYV.out.lt); have HNf := Lib.hid (HNV.out.below hbf HNV.out.lt); have HOf := Lib.hid (HOV.out.below hbf HOV.out.lt); have HIf := Lib.hid (HIV.out.later hbf); clear hbf v0 v1 v2 v3; clear x0 x1 x2 x3 y0 y1 y2 y3 z0 z1; obtain ⟨x0, x1, x2, x3⟩ := HXf.out.four4; obtain ⟨y0, y1, y2, y3⟩ := HYf.out.four4; obtain ⟨z0, z1⟩ := HNf.out.duo; obtain ⟨v0, v1, v2, v3⟩ := HOf.out.four4)))
    go_ret
    exact ⟨HBz.out, rfl⟩
  have e2 : decide (C2 < 0) = false := decide_eq_false hc2
  have hsx : sqs x = x * x := sqs_cmp (by rw [← hC1] at hc1; exact hc1)
  have hsy : sqs y = y * y := sqs_cmp (by rw [← hC2] at hc2; exact hc2)
  clear hc1 hc2
  go_upto_region 15 with (first
      | (go_at_call 41; (with_reducible refine (cmpRH iy HIf.out HBf.out (Below.refl _ _) (by omega) (by omega) hC2).mono ?_; rintro e wg ⟨hbg, rfl⟩; have HBg := Lib.hid (below_to HBf.out hbg HBf.out.size); have HXg := Lib.hid (HXf.out.below hbg HXf.out.lt); have HYg := Lib.hid (HYf.out.below hbg HYf.out.lt); have HNg := Lib.hid (HNf.out.below hbg HNf.out.lt); have HOg := Lib.hid (HOf.out.below hbg HOf.out.lt); have HIg := Lib.hid (HIf.out.later hbg); clear hbg v0 v1 v2 v3; clear x0 x1 x2 x3 y0 y1 y2 y3 z0 z1; obtain ⟨x0, x1, x2, x3⟩ := HXg.out.four4; obtain ⟨y0, y1, y2, y3⟩ := HYg.out.four4; obtain ⟨z0, z1⟩ := HNg.out.duo; obtain ⟨v0, v1, v2, v3⟩ := HOg.out.four4))
      | (go_at_call 41; (with_reducible refine (cmpRH ix HIV.out HBV.out (Below.refl _ _) (by omega) (by omega) hC1).mono ?_; rintro e wf ⟨hbf, rfl⟩; have HBf := Lib.hid (below_to HBV.out hbf HBV.out.size); have HXf := Lib.hid (HXV.out.below hbf HXV.out.lt); have HYf := Lib.hid (HYV.out.below hbf HYV.out.lt); have HNf := Lib.hid (HNV.out.below hbf HNV.out.lt); have HOf := Lib.hid (HOV.out.below hbf HOV.out.lt); have HIf := Lib.hid (HIV.out.later hbf); clear hbf v0 v1 v2 v3; clear x0 x1 x2 x3 y0 y1 y2 y3 z0 z1; obtain ⟨x0, x1, x2, x3⟩ := HXf.out.four4; obtain ⟨y0, y1, y2, y3⟩ := HYf.out.four4; obtain ⟨z0, z1⟩ := HNf.out.duo; obtain ⟨v0, v1, v2, v3⟩ := HOf.out.four4)))
  clear v0 v1 v2 v3 HOV HIV HOf HIf HOg HIg HBf HXf HYf HNf HBV HXV HYV HNV e1 e2 hC1 hC2
  clear x0 x1 x2 x3 y0 y1 y2 y3 z0 z1
  rw [hsx, hsy] at hC
  have HC := Lib.hid hC
  clear hsx hsy hC
  have HBo := Lib.hid HBg.out.drew
  have HXo := Lib.hid HXg.out.drew
  have HYo := Lib.hid HYg.out.drew
  have HNo := Lib.hid HNg.out.drew
  have HC10 : Hid ((fun w' : World => (w'.cell? ⟨w.heap.size, 0, none⟩ = some (.bool sx) ∧ w'.cell? ⟨w.heap.size, 1, none⟩ = some (.slice X nx cx) ∧ w'.cell? ⟨w.heap.size, 2, none⟩ = some (.bool tx) ∧ w'.cell? ⟨w.heap.size, 3, none⟩ = some (.slice P mx dx)) ∧ (w'.cell? ⟨w.heap.size + 1, 0, none⟩ = some (.bool sy) ∧ w'.cell? ⟨w.heap.size + 1, 1, none⟩ = some (.slice Y ny cy) ∧ w'.cell? ⟨w.heap.size + 1, 2, none⟩ = some (.bool ty) ∧ w'.cell? ⟨w.heap.size + 1, 3, none⟩ = some (.slice Q my dy)) ∧ w'.cell? ⟨w.heap.size + 2, 0, none⟩ = some (.int .i64 m) ∧ w'.cell? ⟨w.heap.size + 2, 1, none⟩ = some (.int .i64 n)) wg.drew) := Lib.hid ⟨HXo.out.four4, HYo.out.four4, HNo.out.duo⟩
  have HSA : Hid (∀ (w' : World) o, (fun w' : World => (w'.cell? ⟨w.heap.size, 0, none⟩ = some (.bool sx) ∧ w'.cell? ⟨w.heap.size, 1, none⟩ = some (.slice X nx cx) ∧ w'.cell? ⟨w.heap.size, 2, none⟩ = some (.bool tx) ∧ w'.cell? ⟨w.heap.size, 3, none⟩ = some (.slice P mx dx)) ∧ (w'.cell? ⟨w.heap.size + 1, 0, none⟩ = some (.bool sy) ∧ w'.cell? ⟨w.heap.size + 1, 1, none⟩ = some (.slice Y ny cy) ∧ w'.cell? ⟨w.heap.size + 1, 2, none⟩ = some (.bool ty) ∧ w'.cell? ⟨w.heap.size + 1, 3, none⟩ = some (.slice Q my dy)) ∧ w'.cell? ⟨w.heap.size + 2, 0, none⟩ = some (.int .i64 m) ∧ w'.cell? ⟨w.heap.size + 2, 1, none⟩ = some (.int .i64 n)) w' → (fun w' : World => (w'.cell? ⟨w.heap.size, 0, none⟩ = some (.bool sx) ∧ w'.cell? ⟨w.heap.size, 1, none⟩ = some (.slice X nx cx) ∧ w'.cell? ⟨w.heap.size, 2, none⟩ = some (.bool tx) ∧ w'.cell? ⟨w.heap.size, 3, none⟩ = some (.slice P mx dx)) ∧ (w'.cell? ⟨w.heap.size + 1, 0, none⟩ = some (.bool sy) ∧ w'.cell? ⟨w.heap.size + 1, 1, none⟩ = some (.slice Y ny cy) ∧ w'.cell? ⟨w.heap.size + 1, 2, none⟩ = some (.bool ty) ∧ w'.cell? ⟨w.heap.size + 1, 3, none⟩ = some (.slice Q my dy)) ∧ w'.cell? ⟨w.heap.size + 2, 0, none⟩ = some (.int .i64 m) ∧ w'.cell? ⟨w.heap.size + 2, 1, none⟩ = some (.int .i64 n)) (w'.alloc o)) := Lib.hid (by
    rintro w' o ⟨⟨z0, z1, z2, z3⟩, ⟨z4, z5, z6, z7⟩, z8, z9⟩
    exact ⟨⟨alloc_keep _ z0, alloc_keep _ z1, alloc_keep _ z2, alloc_keep _ z3⟩, ⟨alloc_keep _ z4, alloc_keep _ z5, alloc_keep _ z6, alloc_keep _ z7⟩, alloc_keep _ z8, alloc_keep _ z9⟩)
  refine region_goes (n := 18) (fun w' => (w'.cell? ⟨w.heap.size, 0, none⟩ = some (.bool sx) ∧ w'.cell? ⟨w.heap.size, 1, none⟩ = some (.slice X nx cx) ∧ w'.cell? ⟨w.heap.size, 2, none⟩ = some (.bool tx) ∧ w'.cell? ⟨w.heap.size, 3, none⟩ = some (.slice P mx dx)) ∧ (w'.cell? ⟨w.heap.size + 1, 0, none⟩ = some (.bool sy) ∧ w'.cell? ⟨w.heap.size + 1, 1, none⟩ = some (.slice Y ny cy) ∧ w'.cell? ⟨w.heap.size + 1, 2, none⟩ = some (.bool ty) ∧ w'.cell? ⟨w.heap.size + 1, 3, none⟩ = some (.slice Q my dy)) ∧ w'.cell? ⟨w.heap.size + 2, 0, none⟩ = some (.int .i64 m) ∧ w'.cell? ⟨w.heap.size + 2, 1, none⟩ = some (.int .i64 n)) [16, 17] (by kernel_rfl) rfl ?_
  refine goes_takeE (i := 0) (E := [16, 17]) (v := .agg #[.bool sx, .slice X nx cx, .bool tx, .slice P mx dx]) rfl (by kernel_rfl) rfl (fun _ _ _ h => h) (by intro w' hw'; obtain ⟨⟨z0, z1, z2, z3⟩, ⟨z4, z5, z6, z7⟩, z8, z9⟩ := hw'; go_simp) HC10.out ?_
  refine goes_takeE (i := 1) (E := [16, 17]) (v := .agg #[.bool sx, .slice X nx cx, .bool tx, .slice P mx dx]) rfl (by kernel_rfl) rfl (fun _ _ _ h => h) (by intro w' hw'; obtain ⟨⟨z0, z1, z2, z3⟩, ⟨z4, z5, z6, z7⟩, z8, z9⟩ := hw'; go_simp) HC10.out ?_
  refine goes_takeE (i := 3) (E := [16, 17]) (v := .pointer (some ⟨w.heap.size + 2, 0, none⟩)) rfl (by kernel_rfl) rfl (fun _ _ _ h => h) (by intro w' hw'; obtain ⟨⟨z0, z1, z2, z3⟩, ⟨z4, z5, z6, z7⟩, z8, z9⟩ := hw'; go_simp) HC10.out ?_
  refine goes_takeE (i := 4) (E := [16, 17]) (v := .int .i64 m) rfl (by kernel_rfl) rfl (fun _ _ _ h => h) (by intro w' hw'; obtain ⟨⟨z0, z1, z2, z3⟩, ⟨z4, z5, z6, z7⟩, z8, z9⟩ := hw'; go_simp) HC10.out ?_
  refine goes_takeE (i := 7) (E := [9, 12, 13, 16, 17]) (v := .agg #[.bool sy, .slice Y ny cy, .bool ty, .slice Q my dy]) rfl (by kernel_rfl) rfl (fun _ _ _ h => h) (by intro w' hw'; obtain ⟨⟨z0, z1, z2, z3⟩, ⟨z4, z5, z6, z7⟩, z8, z9⟩ := hw'; go_simp) HC10.out ?_
  refine goes_takeE (i := 8) (E := [9, 12, 13, 16, 17]) (v := .agg #[.bool sy, .slice Y ny cy, .bool ty, .slice Q my dy]) rfl (by kernel_rfl) rfl (fun _ _ _ h => h) (by intro w' hw'; obtain ⟨⟨z0, z1, z2, z3⟩, ⟨z4, z5, z6, z7⟩, z8, z9⟩ := hw'; go_simp) HC10.out ?_
  refine goes_takeE (i := 10) (E := [11, 12, 13, 16, 17]) (v := .pointer (some ⟨w.heap.size + 2, 1, none⟩)) rfl (by kernel_rfl) rfl (fun _ _ _ h => h) (by intro w' hw'; obtain ⟨⟨z0, z1, z2, z3⟩, ⟨z4, z5, z6, z7⟩, z8, z9⟩ := hw'; go_simp) HC10.out ?_
  refine goes_takeE (i := 11) (E := [12, 13, 16, 17]) (v := .int .i64 n) rfl (by kernel_rfl) rfl (fun _ _ _ h => h) (by intro w' hw'; obtain ⟨⟨z0, z1, z2, z3⟩, ⟨z4, z5, z6, z7⟩, z8, z9⟩ := hw'; go_simp) HC10.out ?_
  refine flo_begin2 (vA := undef) (vB := undef) (iA := 14) (iB := 15) (D0 := w.heap.size + 3) (t := 41) (z := #[.bool false, .slice none 0 0, .bool false, .slice none 0 0]) (some 14) (some 15) (by kernel_rfl) HC10.out ?_
  refine flo_call (i := 2) rfl rfl rfl rfl rfl (by intro a w; go_simp) (by intro a w; go_simp) (by intro _ _ _; kernel_rfl) (by intro _ _ _; kernel_rfl) HSA.out (by have := HNo.out.lt; omega) (by decide) (by decide) (by decide) (by kernel_rfl) (by kernel_rfl) (by kernel_rfl) (by kernel_rfl) ?_
  intro vA vB ua hua hsa
  have HUa := Lib.hid (below_to HBo.out hua HBo.out.size)
  go_wp2_with (go_at_call 37; go_loud (with_reducible refine (mulH ix ix HUa.out HUa.out (by omega) (by omega)).mono ?_; rintro e wa ⟨hba, pa, Pa, ia, ja, qa, Qa, ka, la, rfl, hra⟩))
  have HRa := Lib.hid hra
  have hsta := below_to hua hba hua.size
  have HBa := Lib.hid (below_to HBo.out hsta HBo.out.size); have HXa := Lib.hid (HXo.out.below hsta HXo.out.lt); have HYa := Lib.hid (HYo.out.below hsta HYo.out.lt); have HNa := Lib.hid (HNo.out.below hsta HNo.out.lt)
  have HSa := Lib.hid hsta
  refine behind_ok ⟨⟨HXa.out.four4, HYa.out.four4, HNa.out.duo⟩, hba, by kernel_rfl, ?_⟩
  clear hba hra hsa hua hsta
  refine flo_call (i := 5) rfl rfl rfl rfl rfl (by intro a w; go_simp) (by intro a w; go_simp) (by intro _ _ _; kernel_rfl) (by intro _ _ _; kernel_rfl) HSA.out (by have := HNa.out.lt; omega) (by decide) (by decide) (by decide) (by kernel_rfl) (by kernel_rfl) (by kernel_rfl) (by kernel_rfl) ?_
  intro vA vB ub hub hsb
  have HUb := Lib.hid (below_to HBa.out hub HBa.out.size)
  go_wp2_with (go_at_call 29; go_loud (with_reducible refine (wholePH m _ (by omega) (by omega)).mono ?_; rintro e wb ⟨hbb, pb, Pb, ib, jb, qb, Qb, kb, lb, rfl, hrb⟩))
  have HRb := Lib.hid hrb
  have hstb := below_to hub hbb hub.size
  have HBb := Lib.hid (below_to HBa.out hstb HBa.out.size); have HXb := Lib.hid (HXa.out.below hstb HXa.out.lt); have HYb := Lib.hid (HYa.out.below hstb HYa.out.lt); have HNb := Lib.hid (HNa.out.below hstb HNa.out.lt)
  have HSb := Lib.hid hstb
  refine behind_ok ⟨⟨HXb.out.four4, HYb.out.four4, HNb.out.duo⟩, hbb, by kernel_rfl, ?_⟩
  clear hbb hrb hsb hub hstb
  refine flo_call (i := 6) rfl rfl rfl rfl rfl (by intro a w; go_simp) (by intro a w; go_simp) (by intro _ _ _; kernel_rfl) (by intro _ _ _; kernel_rfl) HSA.out (by have := HNb.out.lt; omega) (by decide) (by decide) (by decide) (by kernel_rfl) (by kernel_rfl) (by kernel_rfl) (by kernel_rfl) ?_
  intro vA vB uc huc hsc
  have HUc := Lib.hid (below_to HBb.out huc HBb.out.size)
  go_wp2_with (go_at_call 37; go_loud (with_reducible refine (mulH HRa.out HRb.out (below_to HSb.out huc HSb.out.size) huc (by omega) (by omega)).mono ?_; rintro e wc ⟨hbc, pc, Pc, ic, jc, qc, Qc, kc, lc, rfl, hrc⟩))
  have HRc := Lib.hid hrc
  have hstc := below_to huc hbc huc.size
  have HBc := Lib.hid (below_to HBb.out hstc HBb.out.size); have HXc := Lib.hid (HXb.out.below hstc HXb.out.lt); have HYc := Lib.hid (HYb.out.below hstc HYb.out.lt); have HNc := Lib.hid (HNb.out.below hstc HNb.out.lt)
  have HSc := Lib.hid hstc
  refine behind_ok ⟨⟨HXc.out.four4, HYc.out.four4, HNc.out.duo⟩, hbc, by kernel_rfl, ?_⟩
  clear hbc hrc hsc huc hstc
  refine flo_call (i := 9) rfl rfl rfl rfl rfl (by intro a w; go_simp) (by intro a w; go_simp) (by intro _ _ _; kernel_rfl) (by intro _ _ _; kernel_rfl) HSA.out (by have := HNc.out.lt; omega) (by decide) (by decide) (by decide) (by kernel_rfl) (by kernel_rfl) (by kernel_rfl) (by kernel_rfl) ?_
  intro vA vB ud hud hsd
  have HUd := Lib.hid (below_to HBc.out hud HBc.out.size)
  go_wp2_with (go_at_call 37; go_loud (with_reducible refine (mulH iy iy HUd.out HUd.out (by omega) (by omega)).mono ?_; rintro e wd ⟨hbd, pd, Pd, id, jd, qd, Qd, kd, ld, rfl, hrd⟩))
  have HRd := Lib.hid hrd
  have hstd := below_to hud hbd hud.size
  have HBd := Lib.hid (below_to HBc.out hstd HBc.out.size); have HXd := Lib.hid (HXc.out.below hstd HXc.out.lt); have HYd := Lib.hid (HYc.out.below hstd HYc.out.lt); have HNd := Lib.hid (HNc.out.below hstd HNc.out.lt)
  have HSd := Lib.hid hstd
  refine behind_ok ⟨⟨HXd.out.four4, HYd.out.four4, HNd.out.duo⟩, hbd, by kernel_rfl, ?_⟩
  clear hbd hrd hsd hud hstd
  refine flo_call (i := 12) rfl rfl rfl rfl rfl (by intro a w; go_simp) (by intro a w; go_simp) (by intro _ _ _; kernel_rfl) (by intro _ _ _; kernel_rfl) HSA.out (by have := HNd.out.lt; omega) (by decide) (by decide) (by decide) (by kernel_rfl) (by kernel_rfl) (by kernel_rfl) (by kernel_rfl) ?_
  intro vA vB uh huh hsh
  have HUh := Lib.hid (below_to HBd.out huh HBd.out.size)
  go_wp2_with (go_at_call 29; go_loud (with_reducible refine (wholePH n _ (by omega) (by omega)).mono ?_; rintro e wh ⟨hbh, ph, Ph, ih, jh, qh, Qh, kh, lh, rfl, hrh⟩))
  have HRh := Lib.hid hrh
  have hsth := below_to huh hbh huh.size
  have HBh := Lib.hid (below_to HBd.out hsth HBd.out.size); have HXh := Lib.hid (HXd.out.below hsth HXd.out.lt); have HYh := Lib.hid (HYd.out.below hsth HYd.out.lt); have HNh := Lib.hid (HNd.out.below hsth HNd.out.lt)
  have HSh := Lib.hid hsth
  refine behind_ok ⟨⟨HXh.out.four4, HYh.out.four4, HNh.out.duo⟩, hbh, by kernel_rfl, ?_⟩
  clear hbh hrh hsh huh hsth
  refine flo_call (i := 13) rfl rfl rfl rfl rfl (by intro a w; go_simp) (by intro a w; go_simp) (by intro _ _ _; kernel_rfl) (by intro _ _ _; kernel_rfl) HSA.out (by have := HNh.out.lt; omega) (by decide) (by decide) (by decide) (by kernel_rfl) (by kernel_rfl) (by kernel_rfl) (by kernel_rfl) ?_
  intro vA vB uv huv hsv
  have HUv := Lib.hid (below_to HBh.out huv HBh.out.size)
  go_wp2_with (go_at_call 37; go_loud (with_reducible refine (mulH HRd.out HRh.out (below_to HSh.out huv HSh.out.size) huv (by omega) (by omega)).mono ?_; rintro e wv ⟨hbv, pv, Pv, iv, jv, qv, Qv, kv, lv, rfl, hrv⟩))
  have HRv := Lib.hid hrv
  have hstv := below_to huv hbv huv.size
  have HBv := Lib.hid (below_to HBh.out hstv HBh.out.size); have HXv := Lib.hid (HXh.out.below hstv HXh.out.lt); have HYv := Lib.hid (HYh.out.below hstv HYh.out.lt); have HNv := Lib.hid (HNh.out.below hstv HNh.out.lt)
  have HSv := Lib.hid hstv
  refine behind_ok ⟨⟨HXv.out.four4, HYv.out.four4, HNv.out.duo⟩, hbv, by kernel_rfl, ?_⟩
  clear hbv hrv hsv huv hstv
  have HRC := Lib.hid (HRc.out.later (below_to HSd.out (below_to HSh.out HSv.out HSh.out.size) HSd.out.size))
  have HRF := HRv
  clear HRa HRb HRc HRd HRh HRv HSa HSb HSc HSd HSh HSv HXa HXb HXc HXd HXh HYa HYb HYc HYd HYh HUa HUb HUc HUd HUh HUv HNa HNb HNc HNd HNh
  refine flo_end rfl rfl rfl rfl (by intro a w; go_simp) (by intro a w; go_simp) (by intro _ _ _; kernel_rfl) (by intro _ _ _; kernel_rfl) HSA.out (by have := HNv.out.lt; omega) (by decide) (by kernel_rfl) (by kernel_rfl) (by kernel_rfl) ?_
  intro gA gB u hu hgA hgB hne kA kB hsu
  have HBU : Hid (Below w.heap.size w u) := Lib.hid (below_to HBv.out hu HBv.out.size)
  have HRC2 := Lib.hid (HRC.out.later hu)
  have HRF2 := Lib.hid (HRF.out.later hu)
  have HKA := Lib.hid kA
  have HKB := Lib.hid kB
  clear HRC HRF hu hsu HBa HBb HBc HBd HBh HBv HXv HYv HNv HC10 HSA HBo HXo HYo HNo HBg HXg HYg HNg HBW
  obtain ⟨x0, x1, x2, x3⟩ := kA.four4
  have f0 := kA.frozen 0
  have f1 := kA.frozen 1
  have f2 := kA.frozen 2
  have f3 := kA.frozen 3
  clear kA kB
  refine goes_last (i := 16) rfl (by kernel_rfl) (by kernel_rfl) ?_
  go_wp2_with fail
  obtain ⟨V1, hV, hVb, hVk, hVr, hVo, hVs⟩ := stored_over HBU.out (show w.heap.size ≤ gA by omega) HKA.out HRC2.out
  rw [← hV]
  refine behind_ok ?_
  have HVF := Lib.hid (HRF2.out.stored HKA.out (fun p hp => by rw [hV]; exact set_four (o1 := 0) (o2 := 1) (o3 := 2) (o4 := 3) _ _ _ _ p hp) hVs)
  have HVKB := Lib.hid (hVo _ _ _ hne.symm HKB.out)
  have HVB := Lib.hid hVb
  have HVK := Lib.hid hVk
  have HVR := Lib.hid hVr
  clear hV hVb hVk hVr hVo hVs f0 f1 f2 f3 x0 x1 x2 x3
  obtain ⟨x0, x1, x2, x3⟩ := HVKB.out.four4
  have f0 := HVKB.out.frozen 0
  have f1 := HVKB.out.frozen 1
  have f2 := HVKB.out.frozen 2
  have f3 := HVKB.out.frozen 3
  refine goes_last (i := 17) rfl (by kernel_rfl) (by kernel_rfl) ?_
  go_wp2_with fail
  obtain ⟨U, hU, hUb, hUk, hUr, hUo, hUs⟩ := stored_over HVB.out (show w.heap.size ≤ gB by omega) HVKB.out HVF.out
  rw [← hU]
  refine behind_ok (goes_done (by kernel_rfl) ?_)
  have HUR := Lib.hid (HVR.out.stored HVKB.out (fun p hp => by rw [hU]; exact set_four (o1 := 0) (o2 := 1) (o3 := 2) (o4 := 3) _ _ _ _ p hp) hUs)
  have HUF := Lib.hid hUr
  have HUB := Lib.hid hUb
  have hUA := hUo _ _ _ hne HVK.out
  clear hU hUb hUr hUo hUs f0 f1 f2 f3 x0 x1 x2 x3
  obtain ⟨x0, x1, x2, x3⟩ := hUA.four4
  obtain ⟨y0, y1, y2, y3⟩ := hUk.four4
  clear HVF HVKB HVB HVK HVR HBU HRC2 HRF2 HKA HKB hUA hUk
  go_wp2_with (first
    | (go_at_call 41; go_loud (with_reducible refine (cmpRH HUR.out HUF.out (Below.refl _ _) (Below.refl _ _) (by omega) (by omega) HC.out).mono ?_; rintro e wk ⟨hbk, rfl⟩; have HBk := Lib.hid (below_to HUB.out hbk HUB.out.size); clear hbk))
    | (go_at_call 9; with_reducible refine (awake_true _).mono ?_; rintro e wz ⟨hbz, rfl⟩; have HBz := Lib.hid (below_to HBk.out hbz HBk.out.size); clear hbz))
  go_ret
  exact ⟨HBz.out, rfl⟩
end Go.Proofs.YtfjcbmdeaiaeiaaGreat

namespace Go.Proofs.YtfjcbmdeaiaeiaaGreat
open Go.ChangeShapes Go.WideShapes Go.ChangeAt Go.RowKit Go.Joins Go.Deep

set_option maxRecDepth 100000 in
theorem roots_lifted (os : Os) (started : os.Started) (H : Type) (enc : TypeId × Value → H) :
    ReturnsInHanded {} Tryz.checked os 6 .any (Rows.exactRootsSpec.pre6 enc Tryz.prog Tryz.f6 Rows.exactRootsRow.domain false) (Rows.exactRootsSpec.post enc Tryz.prog Tryz.f6 false true false false) := by
  refine returnsInHanded_of_change (C := Tryz.checked) Tryz.own started (by kernel_rfl) Tryz.func6
    (ChangeSpec.witness6 (enc := enc) (C := Tryz.checked) false ⟨#[], #[.agg #[.bool false, .slice none 0 0, .bool false, .slice none 0 0], .agg #[.bool false, .slice none 0 0, .bool false, .slice none 0 0], .agg #[.int .i64 0, .int .i64 0]], []⟩ 8 (by kernel_rfl) (by kernel_rfl) (by kernel_rfl) (by kernel_rfl)) ?_
  intro W base args ds gs before hval0 hW _ _
  have hval : ∀ (j : Nat) t v, Tryz.f6.params[j]? = some t → args[j]? = some v → Value.okWide Tryz.prog W .any base t v := hval0
  have hW' := hW
  obtain ⟨p, q, hA0, hV, rfl, _, _⟩ := hW
  have hA : DataW.TrodAll enc Tryz.prog W 0 (fun _ => true) true Tryz.f6.params.toList args.toList ds p := hA0
  rw [Tryz.params6] at hA hval
  obtain ⟨v0, v1, v2, d0, d1, d2, p0, p1, p2, rfl, rfl, rfl, h0, h1, h2⟩ := trodAll_three hA
  obtain ⟨rfl, rfl⟩ := trodVars_none hV
  obtain ⟨s0, A0, n0, c0, l0, t0, B0, m0, e0, k0, rfl, g0, j0⟩ := open_R (hval 0 _ v0 rfl rfl) h0
  obtain ⟨s1, A1, n1, c1, l1, t1, B1, m1, e1, k1, rfl, g1, j1⟩ := open_R (hval 1 _ v1 rfl rfl) h1
  obtain ⟨n, m, rfl, hn1, hn2, hm1, hm2⟩ := open_N (hval 2 _ v2 rfl rfl) h2
  refine (lawRoots_any s0 t0 s1 t1 A0 B0 A1 B1 n0 c0 m0 e0 n1 c1 m1 e1 l0 k0 l1 k1 n m W g0 j0 g1 j1 hn1 hn2 hm1 hm2).mono fun e W' ⟨hb, he⟩ => ?_
  subst he
  exact ⟨_, rfl, law_post (tb := 4) Tryz.laidOut (by kernel_rfl) (by kernel_rfl) Tryz.underlying4 rfl hW' rfl rfl rfl hb⟩

theorem roots_holds : Rows.ExactRootsSaid :=
  OpenClaim.holds_of_wide 6 Tryz.f6 rfl rfl rfl rfl rfl rfl rfl ⟨rfl, rfl, rfl, rfl, rfl⟩ rfl rfl rfl rfl rfl (by kernel_rfl) Tryz.func6 (by kernel_rfl)
    (of_decide_eq_true (by kernel_rfl)) (by unfold Func.isWrapper; first | (rw [if_pos (by decide +kernel)]; kernel_rfl) | (rw [if_neg (by decide +kernel)]; exact ⟨rfl, rfl⟩))
    (fun os started H enc _ => roots_lifted os started H enc)

end Go.Proofs.YtfjcbmdeaiaeiaaGreat
