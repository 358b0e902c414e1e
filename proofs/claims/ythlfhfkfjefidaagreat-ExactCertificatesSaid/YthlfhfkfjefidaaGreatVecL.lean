/- Certificates, the reference: CheckOptimum. -/
import Derived.Test.YthlfhfkfjefidaaGreatVecI
namespace Go.Proofs.YthlfhfkfjefidaaGreat
open Go Go.RowKit
set_option maxRecDepth 100000 in
set_option maxHeartbeats 8000000 in
theorem rcheck1 {w : World} {A B C : Option Addr} {n c m d k e : Nat} {S : List SL} {M : List (List Rat)} {BL CL : List Rat} {XA YA RA : Option Addr} {xn xc yn yc rn rc : Nat} {X Y R : List Rat} {v1 v2 : Bool} {V1 V2 : Option Addr} {p1 q1 p2 q2 : Nat} {V : Rat} (hx8 : xn ≤ 8) (hr8 : rn ≤ 8) (h : Ctx w A B C n c m d k e S M BL CL) (ho : Opt w XA YA RA xn xc yn yc rn rc X Y R v1 v2 V1 V2 p1 q1 p2 q2 V) : Calls Tryz.prog 47 #[.agg #[.slice A n c, .slice B m d, .slice C k e], .agg #[.int .i64 1, .slice XA xn xc, .slice YA yn yc, .slice RA rn rc, .bool v1, .slice V1 p1 q1, .bool v2, .slice V2 p2 q2]] w fun e' w' => Below w.heap.size w w' ∧ e' = .returned (.int .i64 (if certS M BL CL 1 X Y R V then (0 : Int) else 25)) := by
 obtain ⟨T0, h0⟩ : ∃ T, decide (xn + rn = 0) = T := ⟨_, rfl⟩
 obtain ⟨T1, h1⟩ : ∃ T, decide (V = 0) = T := ⟨_, rfl⟩
 obtain ⟨T2, h2⟩ : ∃ T, (decide (yn = n) && nnL Y) = T := ⟨_, rfl⟩
 obtain ⟨T3, h3⟩ : ∃ T, leL (zer k) (befL Y M k) = T := ⟨_, rfl⟩
 obtain ⟨T4, h4⟩ : ∃ T, decide (dotQ Y BL < 0) = T := ⟨_, rfl⟩
 have hcert : certS M BL CL 1 X Y R V = (T0 && (T1 && (T2 && (T3 && T4)))) := by rw [cert1 ho.x.len ho.r.len ho.y.len h.b.len h.c.len h.mn, h0, h1, h2, h3, h4]
 have HCERT := Lib.hid hcert
 obtain ⟨C1, hc1, t1, f1⟩ := cmp_same h1
 obtain ⟨C4, hc4, t4, f4⟩ := sign_below h4
 rw [← cmp_num_] at hc1 hc4
 have HC1 := Lib.hid hc1
 have HC4 := Lib.hid hc4
 have HT3 := Lib.hid h3
 have HD2 : Hid ((decide (yn = n) && leL (zer n) Y) = T2) := Lib.hid ((atz ho.y.len).trans h2)
 have HYT : T2 = true → yn = n := fun hT => of_decide_eq_true (and_left (h2.trans hT))
 obtain ⟨U, hU⟩ : ∃ U : Int, (xn : Int) + (rn : Int) = U := ⟨_, rfl⟩
 have HQ0 : (T0 = true → U = 0) ∧ (T0 = false → ¬ U = 0) := ⟨fun hT => by have := of_decide_eq_true (h0.trans hT); omega, fun hT => by have := of_decide_eq_false (h0.trans hT); omega⟩
 have hwr : IntKind.i64.wrap ((xn : Int) + (rn : Int)) = U := by rw [← hU]; exact IntWalk.i64_in _ (by omega)
 clear hcert h0 h1 h2 h3 h4 hc1 hc4 hx8 hr8 hU
 have hn4 := h.n4
 have hk4 := h.k4
 have hm4 := h.mn4
 have HCT := Lib.hid h
 have HOT := Lib.hid ho
 clear h ho
 obtain ⟨Z, hZ⟩ : ∃ Z : Int, (if certS M BL CL 1 X Y R V then (0 : Int) else 25) = Z := ⟨_, rfl⟩
 rw [hZ]
 have HZ := Lib.hid hZ
 clear hZ
 go_enter Tryz.func47, Tryz.ntmps47
 go_upto_region 1 with fail
 generalize hW : (World.alloc _ _) = wW
 have hb0 : Below w.heap.size w wW := by rw [← hW]; exact Below.alloc2 (Below.alloc2 (Below.refl _ _) _) _
 have hk0 : Bk wW w.heap.size 60 #[.slice A n c, .slice B m d, .slice C k e] := by rw [← hW]; exact Bk.alloc (Bk.alloc_ _ _ _) _
 have hk1 : Bk wW (w.heap.size + 1) 62 #[.int .i64 1, .slice XA xn xc, .slice YA yn yc, .slice RA rn rc, .bool v1, .slice V1 p1 q1, .bool v2, .slice V2 p2 q2] := by rw [← hW]; exact Bk.at_ (by simp)
 have HB0 := Lib.hid hb0
 have HK : Hid (∀ w', Below wW.heap.size wW w' → (fun w' : World => w'.cell? ⟨w.heap.size, 0, none⟩ = some (.slice A n c) ∧ w'.cell? ⟨w.heap.size, 1, none⟩ = some (.slice B m d) ∧ w'.cell? ⟨w.heap.size, 2, none⟩ = some (.slice C k e) ∧ w'.cell? ⟨w.heap.size + 1, 0, none⟩ = some (.int .i64 1) ∧ w'.cell? ⟨w.heap.size + 1, 1, none⟩ = some (.slice XA xn xc) ∧ w'.cell? ⟨w.heap.size + 1, 2, none⟩ = some (.slice YA yn yc) ∧ w'.cell? ⟨w.heap.size + 1, 3, none⟩ = some (.slice RA rn rc) ∧ w'.cell? ⟨w.heap.size + 1, 4, none⟩ = some (.bool v1) ∧ w'.cell? ⟨w.heap.size + 1, 5, none⟩ = some (.slice V1 p1 q1) ∧ w'.cell? ⟨w.heap.size + 1, 6, none⟩ = some (.bool v2) ∧ w'.cell? ⟨w.heap.size + 1, 7, none⟩ = some (.slice V2 p2 q2)) w') := Lib.hid fun w' hb => ⟨(hk0.below hb hk0.lt).trio.1, (hk0.below hb hk0.lt).trio.2.1, (hk0.below hb hk0.lt).trio.2.2, (hk1.below hb hk1.lt).eight⟩
 have HP : Hid (∀ w', Below wW.heap.size wW w' → Ctx w' A B C n c m d k e S M BL CL) := Lib.hid fun w' hb => (HCT.out.later hb0).later hb
 have HO : Hid (∀ w', Below wW.heap.size wW w' → Opt w' XA YA RA xn xc yn yc rn rc X Y R v1 v2 V1 V2 p1 q1 p2 q2 V) := Lib.hid fun w' hb => (HOT.out.later hb0).later hb
 clear hW hb0 hk0 hk1
 have HBc := Lib.hid (Below.drew (Below.refl wW.heap.size wW))
 have hC := HK.out _ HBc.out
 refine region_goes (n := 8) (fun w' : World => w'.cell? ⟨w.heap.size, 0, none⟩ = some (.slice A n c) ∧ w'.cell? ⟨w.heap.size, 1, none⟩ = some (.slice B m d) ∧ w'.cell? ⟨w.heap.size, 2, none⟩ = some (.slice C k e) ∧ w'.cell? ⟨w.heap.size + 1, 0, none⟩ = some (.int .i64 1) ∧ w'.cell? ⟨w.heap.size + 1, 1, none⟩ = some (.slice XA xn xc) ∧ w'.cell? ⟨w.heap.size + 1, 2, none⟩ = some (.slice YA yn yc) ∧ w'.cell? ⟨w.heap.size + 1, 3, none⟩ = some (.slice RA rn rc) ∧ w'.cell? ⟨w.heap.size + 1, 4, none⟩ = some (.bool v1) ∧ w'.cell? ⟨w.heap.size + 1, 5, none⟩ = some (.slice V1 p1 q1) ∧ w'.cell? ⟨w.heap.size + 1, 6, none⟩ = some (.bool v2) ∧ w'.cell? ⟨w.heap.size + 1, 7, none⟩ = some (.slice V2 p2 q2)) [] (by kernel_rfl) rfl ?_
 refine gt11 0 [] (.pointer (some ⟨w.heap.size, 0, none⟩)) hC ?_
 refine gt11 1 [] (.slice A n c) hC ?_
 refine gt11 2 [] (.int .i64 (n : Int)) hC ?_
 refine gt11 3 [] (.pointer (some ⟨w.heap.size, 2, none⟩)) hC ?_
 refine gt11 4 [] (.slice C k e) hC ?_
 refine gt11 5 [] (.int .i64 (k : Int)) hC ?_
 refine gt11 6 [] (.int .i64 (n : Int)) hC ?_
 refine gt11 7 [] (.int .i64 (k : Int)) hC ?_
 refine goes_done (by kernel_rfl) ?_
 simp only [List.getElem_toArray, List.getElem_cons_succ, List.getElem_cons_zero, Act.put, List.setIfInBounds_toArray, List.set_cons_succ, List.set_cons_zero]
 clear hC
 obtain ⟨x0, x1, x2, x3, x4, x5, x6, x7, x8, x9, x10⟩ := HK.out _ HBc.out
 go_upto_region 7 with fail
 clear x0 x1 x2 x3 x4 x5 x6 x7 x8 x9 x10
 have HBd := Lib.hid (Below.drew HBc.out)
 have hC := HK.out _ HBd.out
 refine region_goes (n := 42) (fun w' : World => w'.cell? ⟨w.heap.size, 0, none⟩ = some (.slice A n c) ∧ w'.cell? ⟨w.heap.size, 1, none⟩ = some (.slice B m d) ∧ w'.cell? ⟨w.heap.size, 2, none⟩ = some (.slice C k e) ∧ w'.cell? ⟨w.heap.size + 1, 0, none⟩ = some (.int .i64 1) ∧ w'.cell? ⟨w.heap.size + 1, 1, none⟩ = some (.slice XA xn xc) ∧ w'.cell? ⟨w.heap.size + 1, 2, none⟩ = some (.slice YA yn yc) ∧ w'.cell? ⟨w.heap.size + 1, 3, none⟩ = some (.slice RA rn rc) ∧ w'.cell? ⟨w.heap.size + 1, 4, none⟩ = some (.bool v1) ∧ w'.cell? ⟨w.heap.size + 1, 5, none⟩ = some (.slice V1 p1 q1) ∧ w'.cell? ⟨w.heap.size + 1, 6, none⟩ = some (.bool v2) ∧ w'.cell? ⟨w.heap.size + 1, 7, none⟩ = some (.slice V2 p2 q2)) [] (by kernel_rfl) rfl ?_
 refine gt11 0 [] (.pointer (some ⟨w.heap.size + 1, 1, none⟩)) hC ?_
 refine gt11 1 [] (.slice XA xn xc) hC ?_
 refine gt11 2 [] (.int .i64 (xn : Int)) hC ?_
 refine gt11 3 [] (.pointer (some ⟨w.heap.size + 1, 3, none⟩)) hC ?_
 refine gt11 4 [] (.slice RA rn rc) hC ?_
 refine gt11 5 [] (.int .i64 (rn : Int)) hC ?_
 refine gt11 6 [] (.int .i64 U) hC ?_
 cases T0 with
 | false =>
   have r0 := HQ0.2 rfl
   refine gt11 7 [] (.bool false) hC ?_
   refine gt11 8 [] (.bool false) hC ?_
   refine gs 9 hC ?_
   refine gs 10 hC ?_
   refine gs 11 hC ?_
   refine gs 12 hC ?_
   refine gt11 13 [] (.bool false) hC ?_
   refine gt11 14 [] (.bool false) hC ?_
   refine gs 15 hC ?_
   refine gs 16 hC ?_
   refine gs 17 hC ?_
   refine gs 18 hC ?_
   refine gs 19 hC ?_
   refine gt11 20 [] (.bool false) hC ?_
   refine gt11 21 [] (.bool false) hC ?_
   refine gs 22 hC ?_
   refine gs 23 hC ?_
   refine gs 24 hC ?_
   refine gs 25 hC ?_
   refine gs 26 hC ?_
   refine gs 27 hC ?_
   refine gs 28 hC ?_
   refine gs 29 hC ?_
   refine gs 30 hC ?_
   refine gt11 31 [] (.bool false) hC ?_
   refine gt11 32 [] (.bool false) hC ?_
   refine gs 33 hC ?_
   refine gs 34 hC ?_
   refine gs 35 hC ?_
   refine gs 36 hC ?_
   refine gs 37 hC ?_
   refine gs 38 hC ?_
   refine gs 39 hC ?_
   refine gt11 40 [] (.bool false) hC ?_
   refine gt11 41 [] (.bool false) hC ?_
   refine goes_done (by kernel_rfl) ?_
   simp only [List.getElem_toArray, List.getElem_cons_succ, List.getElem_cons_zero, Act.put, List.setIfInBounds_toArray, List.set_cons_succ, List.set_cons_zero]
   go_wp2
   go_ret
   exact ⟨below_to HB0.out HBd.out HB0.out.size, by rw [← HZ.out, HCERT.out]; rfl⟩
 | true =>
   have r0 := HQ0.1 rfl
   clear HQ0
   refine gt11 7 [] (.bool true) hC ?_
   refine gt11 8 [] (.bool true) hC ?_
   refine gm11 9 (.pointer (some ⟨w.heap.size + 1, 4, none⟩)) hC ?_
   refine gm11 10 (.agg #[.bool v1, .slice V1 p1 q1, .bool v2, .slice V2 p2 q2]) hC ?_
   refine gc 11 ?_
   clear hC
   simp only [List.getElem_toArray, List.getElem_cons_succ, List.getElem_cons_zero, Act.put, List.setIfInBounds_toArray, List.set_cons_succ, List.set_cons_zero]
   go_wp2_with (go_at_call 77; go_loud (with_reducible refine (rsignOfH (HO.out _ HBd.out).v (Below.refl _ _) HC1.out).mono ?_; rintro e2 w1 ⟨hb, rfl⟩; have HB1 := Lib.hid (below_to HBd.out hb HBd.out.size); clear hb))
   have hC := HK.out _ HB1.out
   refine behind_ok ⟨hC, ?_⟩
   cases T1 with
   | false =>
     have r1 := f1 rfl
     refine gm11 12 (.bool false) hC ?_
     refine gt11 13 [] (.bool false) hC ?_
     refine gt11 14 [] (.bool false) hC ?_
     refine gs 15 hC ?_
     refine gs 16 hC ?_
     refine gs 17 hC ?_
     refine gs 18 hC ?_
     refine gs 19 hC ?_
     refine gt11 20 [] (.bool false) hC ?_
     refine gt11 21 [] (.bool false) hC ?_
     refine gs 22 hC ?_
     refine gs 23 hC ?_
     refine gs 24 hC ?_
     refine gs 25 hC ?_
     refine gs 26 hC ?_
     refine gs 27 hC ?_
     refine gs 28 hC ?_
     refine gs 29 hC ?_
     refine gs 30 hC ?_
     refine gt11 31 [] (.bool false) hC ?_
     refine gt11 32 [] (.bool false) hC ?_
     refine gs 33 hC ?_
     refine gs 34 hC ?_
     refine gs 35 hC ?_
     refine gs 36 hC ?_
     refine gs 37 hC ?_
     refine gs 38 hC ?_
     refine gs 39 hC ?_
     refine gt11 40 [] (.bool false) hC ?_
     refine gt11 41 [] (.bool false) hC ?_
     refine goes_done (by kernel_rfl) ?_
     simp only [List.getElem_toArray, List.getElem_cons_succ, List.getElem_cons_zero, Act.put, List.setIfInBounds_toArray, List.set_cons_succ, List.set_cons_zero]
     go_wp2
     go_ret
     exact ⟨below_to HB0.out HB1.out HB0.out.size, by rw [← HZ.out, HCERT.out]; rfl⟩
   | true =>
     have r1 := t1 rfl
     refine gm11 12 (.bool true) hC ?_
     refine gt11 13 [] (.bool true) hC ?_
     refine gt11 14 [] (.bool true) hC ?_
     refine gm11 15 (.pointer (some ⟨w.heap.size + 1, 2, none⟩)) hC ?_
     refine gm11 16 (.slice YA yn yc) hC ?_
     refine gm11 17 (.int .i64 (n : Int)) hC ?_
     refine gc 18 ?_
     clear hC
     simp only [List.getElem_toArray, List.getElem_cons_succ, List.getElem_cons_zero, Act.put, List.setIfInBounds_toArray, List.set_cons_succ, List.set_cons_zero]
     go_wp2_with (go_at_call 88; go_loud (with_reducible refine (rzeros_any n (by omega) _).mono ?_; rintro e2 w2 ⟨hb, zA2, zc2, rfl, hr⟩; have HB2 := Lib.hid (below_to HB1.out hb HB1.out.size); clear hb; have HZ2 := Lib.hid hr; clear hr))
     have hC := HK.out _ HB2.out
     refine behind_ok ⟨hC, ?_⟩
     refine gc 19 ?_
     clear hC
     go_wp2_with (go_at_call 87; go_loud (with_reducible refine (atLeast_any (HO.out _ HB2.out).y HZ2.out (by omega) (by omega) (by omega)).mono ?_; rintro e2 w3 ⟨hb, rfl⟩; rw [HD2.out]; have HB3 := Lib.hid (below_to HB2.out hb HB2.out.size); clear hb))
     have hC := HK.out _ HB3.out
     refine behind_ok ⟨hC, ?_⟩
     cases T2 with
     | false =>
       clear HYT
       refine gt11 20 [] (.bool false) hC ?_
       refine gt11 21 [] (.bool false) hC ?_
       refine gs 22 hC ?_
       refine gs 23 hC ?_
       refine gs 24 hC ?_
       refine gs 25 hC ?_
       refine gs 26 hC ?_
       refine gs 27 hC ?_
       refine gs 28 hC ?_
       refine gs 29 hC ?_
       refine gs 30 hC ?_
       refine gt11 31 [] (.bool false) hC ?_
       refine gt11 32 [] (.bool false) hC ?_
       refine gs 33 hC ?_
       refine gs 34 hC ?_
       refine gs 35 hC ?_
       refine gs 36 hC ?_
       refine gs 37 hC ?_
       refine gs 38 hC ?_
       refine gs 39 hC ?_
       refine gt11 40 [] (.bool false) hC ?_
       refine gt11 41 [] (.bool false) hC ?_
       refine goes_done (by kernel_rfl) ?_
       simp only [List.getElem_toArray, List.getElem_cons_succ, List.getElem_cons_zero, Act.put, List.setIfInBounds_toArray, List.set_cons_succ, List.set_cons_zero]
       go_wp2
       go_ret
       exact ⟨below_to HB0.out HB3.out HB0.out.size, by rw [← HZ.out, HCERT.out]; rfl⟩
     | true =>
       have HYN := Lib.hid (HYT rfl)
       clear HYT
       refine gt11 20 [] (.bool true) hC ?_
       refine gt11 21 [] (.bool true) hC ?_
       refine gm11 22 (.pointer (some ⟨w.heap.size + 1, 2, none⟩)) hC ?_
       refine gm11 23 (.slice YA yn yc) hC ?_
       refine gm11 24 (.pointer (some ⟨w.heap.size, 0, none⟩)) hC ?_
       refine gm11 25 (.slice A n c) hC ?_
       refine gm11 26 (.int .i64 (k : Int)) hC ?_
       refine gm11 28 (.int .i64 (k : Int)) hC ?_
       refine gc 27 ?_
       clear hC
       simp only [List.getElem_toArray, List.getElem_cons_succ, List.getElem_cons_zero, Act.put, List.setIfInBounds_toArray, List.set_cons_succ, List.set_cons_zero]
       go_wp2_with (go_at_call 89; go_loud (with_reducible refine (rbefore_len (HP.out _ HB3.out).mt (HP.out _ HB3.out).mq (HP.out _ HB3.out).wd (HO.out _ HB3.out).y HYN.out hn4 (by omega)).mono ?_; rintro e2 w4 ⟨hb, bA, bc, rfl, hr⟩; have HB4 := Lib.hid (below_to HB3.out hb HB3.out.size); clear hb; have HBF4 := Lib.hid hr; clear hr))
       have hC := HK.out _ HB4.out
       refine behind_ok ⟨hC, ?_⟩
       refine gc 29 ?_
       clear hC
       go_wp2_with (go_at_call 88; go_loud (with_reducible refine (rzeros_any k (by omega) _).mono ?_; rintro e2 w5 ⟨hb, zA5, zc5, rfl, hr⟩; have HBF5 := Lib.hid (HBF4.out.later hb); have HB5 := Lib.hid (below_to HB4.out hb HB4.out.size); clear hb; have HZ5 := Lib.hid hr; clear hr))
       have hC := HK.out _ HB5.out
       refine behind_ok ⟨hC, ?_⟩
       refine gc 30 ?_
       clear hC
       go_wp2_with (go_at_call 87; go_loud (with_reducible refine (atLeast_same HBF5.out HZ5.out (by omega) (by omega) (by omega)).mono ?_; rintro e2 w6 ⟨hb, rfl⟩; rw [HT3.out]; have HB6 := Lib.hid (below_to HB5.out hb HB5.out.size); clear hb))
       have hC := HK.out _ HB6.out
       refine behind_ok ⟨hC, ?_⟩
       cases T3 with
       | false =>
         refine gt11 31 [] (.bool false) hC ?_
         refine gt11 32 [] (.bool false) hC ?_
         refine gs 33 hC ?_
         refine gs 34 hC ?_
         refine gs 35 hC ?_
         refine gs 36 hC ?_
         refine gs 37 hC ?_
         refine gs 38 hC ?_
         refine gs 39 hC ?_
         refine gt11 40 [] (.bool false) hC ?_
         refine gt11 41 [] (.bool false) hC ?_
         refine goes_done (by kernel_rfl) ?_
         simp only [List.getElem_toArray, List.getElem_cons_succ, List.getElem_cons_zero, Act.put, List.setIfInBounds_toArray, List.set_cons_succ, List.set_cons_zero]
         go_wp2
         go_ret
         exact ⟨below_to HB0.out HB6.out HB0.out.size, by rw [← HZ.out, HCERT.out]; rfl⟩
       | true =>
         refine gt11 31 [] (.bool true) hC ?_
         refine gt11 32 [] (.bool true) hC ?_
         refine gm11 33 (.pointer (some ⟨w.heap.size + 1, 2, none⟩)) hC ?_
         refine gm11 34 (.slice YA yn yc) hC ?_
         refine gm11 35 (.pointer (some ⟨w.heap.size, 1, none⟩)) hC ?_
         refine gm11 36 (.slice B m d) hC ?_
         refine gc 37 ?_
         clear hC
         simp only [List.getElem_toArray, List.getElem_cons_succ, List.getElem_cons_zero, Act.put, List.setIfInBounds_toArray, List.set_cons_succ, List.set_cons_zero]
         go_wp2_with (go_at_call 90; go_loud (with_reducible refine (rdot_len (HO.out _ HB6.out).y (HP.out _ HB6.out).b (HYN.out.trans (HP.out _ HB6.out).mn.symm) (by rw [HYN.out]; omega)).mono ?_; rintro e2 w7 ⟨hb, s7, A7, n7, c7, t7, D7, m7, d7, rfl, hr⟩; have HB7 := Lib.hid (below_to HB6.out hb HB6.out.size); clear hb; have HR7 := Lib.hid hr; clear hr))
         have hC := HK.out _ HB7.out
         refine behind_ok ⟨hC, ?_⟩
         refine gc 38 ?_
         clear hC
         go_wp2_with (go_at_call 77; go_loud (with_reducible refine (rsignOfH HR7.out (Below.refl _ _) HC4.out).mono ?_; rintro e2 w8 ⟨hb, rfl⟩; have HB8 := Lib.hid (below_to HB7.out hb HB7.out.size); clear hb))
         have hC := HK.out _ HB8.out
         refine behind_ok ⟨hC, ?_⟩
         cases T4 with
         | false =>
           have r4 := f4 rfl
           refine gm11 39 (.bool false) hC ?_
           refine gt11 40 [] (.bool false) hC ?_
           refine gt11 41 [] (.bool false) hC ?_
           refine goes_done (by kernel_rfl) ?_
           simp only [List.getElem_toArray, List.getElem_cons_succ, List.getElem_cons_zero, Act.put, List.setIfInBounds_toArray, List.set_cons_succ, List.set_cons_zero]
           go_wp2
           go_ret
           exact ⟨below_to HB0.out HB8.out HB0.out.size, by rw [← HZ.out, HCERT.out]; rfl⟩
         | true =>
           have r4 := t4 rfl
           refine gm11 39 (.bool true) hC ?_
           refine gt11 40 [] (.bool true) hC ?_
           refine gt11 41 [] (.bool true) hC ?_
           refine goes_done (by kernel_rfl) ?_
           simp only [List.getElem_toArray, List.getElem_cons_succ, List.getElem_cons_zero, Act.put, List.setIfInBounds_toArray, List.set_cons_succ, List.set_cons_zero]
           go_wp2
           go_ret
           exact ⟨below_to HB0.out HB8.out HB0.out.size, by rw [← HZ.out, HCERT.out]; rfl⟩
end Go.Proofs.YthlfhfkfjefidaaGreat
