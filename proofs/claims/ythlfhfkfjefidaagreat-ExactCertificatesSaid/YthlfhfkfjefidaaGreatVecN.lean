/- Certificates, the reference: CheckOptimum. -/
import Derived.Test.YthlfhfkfjefidaaGreatVecI
namespace Go.Proofs.YthlfhfkfjefidaaGreat
open Go Go.RowKit
set_option maxRecDepth 100000 in
set_option maxHeartbeats 8000000 in
theorem rcheck2 {w : World} {A B C : Option Addr} {n c m d k e : Nat} {S : List SL} {M : List (List Rat)} {BL CL : List Rat} {XA YA RA : Option Addr} {xn xc yn yc rn rc : Nat} {X Y R : List Rat} {v1 v2 : Bool} {V1 V2 : Option Addr} {p1 q1 p2 q2 : Nat} {V : Rat}  (h : Ctx w A B C n c m d k e S M BL CL) (ho : Opt w XA YA RA xn xc yn yc rn rc X Y R v1 v2 V1 V2 p1 q1 p2 q2 V) : Calls Tryz.prog 47 #[.agg #[.slice A n c, .slice B m d, .slice C k e], .agg #[.int .i64 2, .slice XA xn xc, .slice YA yn yc, .slice RA rn rc, .bool v1, .slice V1 p1 q1, .bool v2, .slice V2 p2 q2]] w fun e' w' => Below w.heap.size w w' ∧ e' = .returned (.int .i64 (if certS M BL CL 2 X Y R V then (0 : Int) else 25)) := by
 have hbl := h.b.len
 obtain ⟨T0, h0⟩ : ∃ T, decide (yn = 0) = T := ⟨_, rfl⟩
 obtain ⟨T1, h1⟩ : ∃ T, decide (V = 0) = T := ⟨_, rfl⟩
 obtain ⟨T2, h2⟩ : ∃ T, belS M CL X BL = T := ⟨_, rfl⟩
 obtain ⟨T3, h3⟩ : ∃ T, belS M CL R (zer n) = T := ⟨_, rfl⟩
 obtain ⟨T4, h4⟩ : ∃ T, decide (0 < dotQ CL R) = T := ⟨_, rfl⟩
 have hcert : certS M BL CL 2 X Y R V = (T0 && (T1 && (T2 && (T3 && T4)))) := by rw [cert2 ho.y.len h.b.len, h.mn, h0, h1, h2, h3, h4]
 have HCERT := Lib.hid hcert
 obtain ⟨C1, hc1, t1, f1⟩ := cmp_same h1
 obtain ⟨C4, hc4, t4, f4⟩ := sign_above h4
 rw [← cmp_num_] at hc1 hc4
 have HC1 := Lib.hid hc1
 have HC4 := Lib.hid hc4
 have HT2 := Lib.hid h2
 have HT3 := Lib.hid h3
 have HXN : T3 = true → k = rn := fun hT => by have := bel_len (h3.trans hT); rw [ho.r.len, h.c.len] at this; exact this.symm
 have HQ0 : (T0 = true → (yn : Int) = 0) ∧ (T0 = false → ¬ yn = 0) := ⟨fun hT => by have := of_decide_eq_true (h0.trans hT); omega, fun hT => of_decide_eq_false (h0.trans hT)⟩
 clear hcert h0 h1 h2 h3 h4 hc1 hc4 hbl
 have hn4 := h.n4
 have hk4 := h.k4
 have hm4 := h.mn4
 have HCT := Lib.hid h
 have HOT := Lib.hid ho
 clear h ho
 obtain ⟨Z, hZ⟩ : ∃ Z : Int, (if certS M BL CL 2 X Y R V then (0 : Int) else 25) = Z := ⟨_, rfl⟩
 rw [hZ]
 have HZ := Lib.hid hZ
 clear hZ
 go_enter Tryz.func47, Tryz.ntmps47
 go_upto_region 1 with fail
 generalize hW : (World.alloc _ _) = wW
 have hb0 : Below w.heap.size w wW := by rw [← hW]; exact Below.alloc2 (Below.alloc2 (Below.refl _ _) _) _
 have hk0 : Bk wW w.heap.size 60 #[.slice A n c, .slice B m d, .slice C k e] := by rw [← hW]; exact Bk.alloc (Bk.alloc_ _ _ _) _
 have hk1 : Bk wW (w.heap.size + 1) 62 #[.int .i64 2, .slice XA xn xc, .slice YA yn yc, .slice RA rn rc, .bool v1, .slice V1 p1 q1, .bool v2, .slice V2 p2 q2] := by rw [← hW]; exact Bk.at_ (by simp)
 have HB0 := Lib.hid hb0
 have HK : Hid (∀ w', Below wW.heap.size wW w' → (fun w' : World => w'.cell? ⟨w.heap.size, 0, none⟩ = some (.slice A n c) ∧ w'.cell? ⟨w.heap.size, 1, none⟩ = some (.slice B m d) ∧ w'.cell? ⟨w.heap.size, 2, none⟩ = some (.slice C k e) ∧ w'.cell? ⟨w.heap.size + 1, 0, none⟩ = some (.int .i64 2) ∧ w'.cell? ⟨w.heap.size + 1, 1, none⟩ = some (.slice XA xn xc) ∧ w'.cell? ⟨w.heap.size + 1, 2, none⟩ = some (.slice YA yn yc) ∧ w'.cell? ⟨w.heap.size + 1, 3, none⟩ = some (.slice RA rn rc) ∧ w'.cell? ⟨w.heap.size + 1, 4, none⟩ = some (.bool v1) ∧ w'.cell? ⟨w.heap.size + 1, 5, none⟩ = some (.slice V1 p1 q1) ∧ w'.cell? ⟨w.heap.size + 1, 6, none⟩ = some (.bool v2) ∧ w'.cell? ⟨w.heap.size + 1, 7, none⟩ = some (.slice V2 p2 q2)) w') := Lib.hid fun w' hb => ⟨(hk0.below hb hk0.lt).trio.1, (hk0.below hb hk0.lt).trio.2.1, (hk0.below hb hk0.lt).trio.2.2, (hk1.below hb hk1.lt).eight⟩
 have HP : Hid (∀ w', Below wW.heap.size wW w' → Ctx w' A B C n c m d k e S M BL CL) := Lib.hid fun w' hb => (HCT.out.later hb0).later hb
 have HO : Hid (∀ w', Below wW.heap.size wW w' → Opt w' XA YA RA xn xc yn yc rn rc X Y R v1 v2 V1 V2 p1 q1 p2 q2 V) := Lib.hid fun w' hb => (HOT.out.later hb0).later hb
 clear hW hb0 hk0 hk1
 have HBc := Lib.hid (Below.drew (Below.refl wW.heap.size wW))
 have hC := HK.out _ HBc.out
 refine region_goes (n := 8) (fun w' : World => w'.cell? ⟨w.heap.size, 0, none⟩ = some (.slice A n c) ∧ w'.cell? ⟨w.heap.size, 1, none⟩ = some (.slice B m d) ∧ w'.cell? ⟨w.heap.size, 2, none⟩ = some (.slice C k e) ∧ w'.cell? ⟨w.heap.size + 1, 0, none⟩ = some (.int .i64 2) ∧ w'.cell? ⟨w.heap.size + 1, 1, none⟩ = some (.slice XA xn xc) ∧ w'.cell? ⟨w.heap.size + 1, 2, none⟩ = some (.slice YA yn yc) ∧ w'.cell? ⟨w.heap.size + 1, 3, none⟩ = some (.slice RA rn rc) ∧ w'.cell? ⟨w.heap.size + 1, 4, none⟩ = some (.bool v1) ∧ w'.cell? ⟨w.heap.size + 1, 5, none⟩ = some (.slice V1 p1 q1) ∧ w'.cell? ⟨w.heap.size + 1, 6, none⟩ = some (.bool v2) ∧ w'.cell? ⟨w.heap.size + 1, 7, none⟩ = some (.slice V2 p2 q2)) [] (by kernel_rfl) rfl ?_
 refine gt11 0 [] (.pointer (some ⟨w.heap.size, 0, none⟩)) hC ?_
 refine gt11 1 [] (.slice A n c) hC ?_
 refine gt11 2 [] (.int .i64 (n : Int)) hC ?_
 refine gt11 3 [] (.pointer (some ⟨w.heap.size, 2, none⟩)) hC ?_
 refine gt11 4 [] (.slice C k e) hC ?_
 refine gt11 5 [] (.int .i64 (k : Int)) hC ?_
 refine gt11 6 [] (.int .i64 (n : Int)) hC ?_
 refine gt11 7 [] (.int .i64 (k : Int)) hC ?_
 refine goes_done (by kernel_rfl) ?_
 simp only [List.getElem_toArray, List.getElem_cons_succ, List.getElem_cons_zero, Act.put, List.setIfInBounds_toArray, List.set_cons_succ, List.set_cons_zero]
 clear hC
 obtain ⟨x0, x1, x2, x3, x4, x5, x6, x7, x8, x9, x10⟩ := HK.out _ HBc.out
 go_upto_region 9 with fail
 clear x0 x1 x2 x3 x4 x5 x6 x7 x8 x9 x10
 have HBd := Lib.hid (Below.drew HBc.out)
 have hC := HK.out _ HBd.out
 refine region_goes (n := 36) (fun w' : World => w'.cell? ⟨w.heap.size, 0, none⟩ = some (.slice A n c) ∧ w'.cell? ⟨w.heap.size, 1, none⟩ = some (.slice B m d) ∧ w'.cell? ⟨w.heap.size, 2, none⟩ = some (.slice C k e) ∧ w'.cell? ⟨w.heap.size + 1, 0, none⟩ = some (.int .i64 2) ∧ w'.cell? ⟨w.heap.size + 1, 1, none⟩ = some (.slice XA xn xc) ∧ w'.cell? ⟨w.heap.size + 1, 2, none⟩ = some (.slice YA yn yc) ∧ w'.cell? ⟨w.heap.size + 1, 3, none⟩ = some (.slice RA rn rc) ∧ w'.cell? ⟨w.heap.size + 1, 4, none⟩ = some (.bool v1) ∧ w'.cell? ⟨w.heap.size + 1, 5, none⟩ = some (.slice V1 p1 q1) ∧ w'.cell? ⟨w.heap.size + 1, 6, none⟩ = some (.bool v2) ∧ w'.cell? ⟨w.heap.size + 1, 7, none⟩ = some (.slice V2 p2 q2)) [] (by kernel_rfl) rfl ?_
 refine gt11 0 [] (.pointer (some ⟨w.heap.size + 1, 2, none⟩)) hC ?_
 refine gt11 1 [] (.slice YA yn yc) hC ?_
 refine gt11 2 [] (.int .i64 (yn : Int)) hC ?_
 cases T0 with
 | false =>
   have r0 := HQ0.2 rfl
   refine gt11 3 [] (.bool false) hC ?_
   refine gt11 4 [] (.bool false) hC ?_
   refine gs 5 hC ?_
   refine gs 6 hC ?_
   refine gs 7 hC ?_
   refine gs 8 hC ?_
   refine gt11 9 [] (.bool false) hC ?_
   refine gt11 10 [] (.bool false) hC ?_
   refine gs 11 hC ?_
   refine gs 12 hC ?_
   refine gs 13 hC ?_
   refine gs 14 hC ?_
   refine gs 15 hC ?_
   refine gs 16 hC ?_
   refine gt11 17 [] (.bool false) hC ?_
   refine gt11 18 [] (.bool false) hC ?_
   refine gs 19 hC ?_
   refine gs 20 hC ?_
   refine gs 21 hC ?_
   refine gs 22 hC ?_
   refine gs 23 hC ?_
   refine gs 24 hC ?_
   refine gt11 25 [] (.bool false) hC ?_
   refine gt11 26 [] (.bool false) hC ?_
   refine gs 27 hC ?_
   refine gs 28 hC ?_
   refine gs 29 hC ?_
   refine gs 30 hC ?_
   refine gs 31 hC ?_
   refine gs 32 hC ?_
   refine gs 33 hC ?_
   refine gt11 34 [] (.bool false) hC ?_
   refine gt11 35 [] (.bool false) hC ?_
   refine goes_done (by kernel_rfl) ?_
   simp only [List.getElem_toArray, List.getElem_cons_succ, List.getElem_cons_zero, Act.put, List.setIfInBounds_toArray, List.set_cons_succ, List.set_cons_zero]
   go_wp2
   go_ret
   exact ⟨below_to HB0.out HBd.out HB0.out.size, by rw [← HZ.out, HCERT.out]; rfl⟩
 | true =>
   have r0 := HQ0.1 rfl
   clear HQ0
   refine gt11 3 [] (.bool true) hC ?_
   refine gt11 4 [] (.bool true) hC ?_
   refine gm11 5 (.pointer (some ⟨w.heap.size + 1, 4, none⟩)) hC ?_
   refine gm11 6 (.agg #[.bool v1, .slice V1 p1 q1, .bool v2, .slice V2 p2 q2]) hC ?_
   refine gc 7 ?_
   clear hC
   simp only [List.getElem_toArray, List.getElem_cons_succ, List.getElem_cons_zero, Act.put, List.setIfInBounds_toArray, List.set_cons_succ, List.set_cons_zero]
   go_wp2_with (go_at_call 77; go_loud (with_reducible refine (rsignOfH (HO.out _ HBd.out).v (Below.refl _ _) HC1.out).mono ?_; rintro e2 w1 ⟨hb, rfl⟩; have HB1 := Lib.hid (below_to HBd.out hb HBd.out.size); clear hb))
   have hC := HK.out _ HB1.out
   refine behind_ok ⟨hC, ?_⟩
   cases T1 with
   | false =>
     have r1 := f1 rfl
     refine gm11 8 (.bool false) hC ?_
     refine gt11 9 [] (.bool false) hC ?_
     refine gt11 10 [] (.bool false) hC ?_
     refine gs 11 hC ?_
     refine gs 12 hC ?_
     refine gs 13 hC ?_
     refine gs 14 hC ?_
     refine gs 15 hC ?_
     refine gs 16 hC ?_
     refine gt11 17 [] (.bool false) hC ?_
     refine gt11 18 [] (.bool false) hC ?_
     refine gs 19 hC ?_
     refine gs 20 hC ?_
     refine gs 21 hC ?_
     refine gs 22 hC ?_
     refine gs 23 hC ?_
     refine gs 24 hC ?_
     refine gt11 25 [] (.bool false) hC ?_
     refine gt11 26 [] (.bool false) hC ?_
     refine gs 27 hC ?_
     refine gs 28 hC ?_
     refine gs 29 hC ?_
     refine gs 30 hC ?_
     refine gs 31 hC ?_
     refine gs 32 hC ?_
     refine gs 33 hC ?_
     refine gt11 34 [] (.bool false) hC ?_
     refine gt11 35 [] (.bool false) hC ?_
     refine goes_done (by kernel_rfl) ?_
     simp only [List.getElem_toArray, List.getElem_cons_succ, List.getElem_cons_zero, Act.put, List.setIfInBounds_toArray, List.set_cons_succ, List.set_cons_zero]
     go_wp2
     go_ret
     exact ⟨below_to HB0.out HB1.out HB0.out.size, by rw [← HZ.out, HCERT.out]; rfl⟩
   | true =>
     have r1 := t1 rfl
     refine gm11 8 (.bool true) hC ?_
     refine gt11 9 [] (.bool true) hC ?_
     refine gt11 10 [] (.bool true) hC ?_
     refine gm11 11 (.agg #[.slice A n c, .slice B m d, .slice C k e]) hC ?_
     refine gm11 12 (.pointer (some ⟨w.heap.size + 1, 1, none⟩)) hC ?_
     refine gm11 13 (.slice XA xn xc) hC ?_
     refine gm11 14 (.pointer (some ⟨w.heap.size, 1, none⟩)) hC ?_
     refine gm11 15 (.slice B m d) hC ?_
     refine gc 16 ?_
     clear hC
     simp only [List.getElem_toArray, List.getElem_cons_succ, List.getElem_cons_zero, Act.put, List.setIfInBounds_toArray, List.set_cons_succ, List.set_cons_zero]
     go_wp2_with (go_at_call 86; go_loud (with_reducible refine (possible_any (HP.out _ HB1.out) (HO.out _ HB1.out).x ((HP.out _ HB1.out).b.wide (by omega))).mono ?_; rintro e2 w2 ⟨hb, rfl⟩; rw [HT2.out]; have HB2 := Lib.hid (below_to HB1.out hb HB1.out.size); clear hb))
     have hC := HK.out _ HB2.out
     refine behind_ok ⟨hC, ?_⟩
     cases T2 with
     | false =>
       refine gt11 17 [] (.bool false) hC ?_
       refine gt11 18 [] (.bool false) hC ?_
       refine gs 19 hC ?_
       refine gs 20 hC ?_
       refine gs 21 hC ?_
       refine gs 22 hC ?_
       refine gs 23 hC ?_
       refine gs 24 hC ?_
       refine gt11 25 [] (.bool false) hC ?_
       refine gt11 26 [] (.bool false) hC ?_
       refine gs 27 hC ?_
       refine gs 28 hC ?_
       refine gs 29 hC ?_
       refine gs 30 hC ?_
       refine gs 31 hC ?_
       refine gs 32 hC ?_
       refine gs 33 hC ?_
       refine gt11 34 [] (.bool false) hC ?_
       refine gt11 35 [] (.bool false) hC ?_
       refine goes_done (by kernel_rfl) ?_
       simp only [List.getElem_toArray, List.getElem_cons_succ, List.getElem_cons_zero, Act.put, List.setIfInBounds_toArray, List.set_cons_succ, List.set_cons_zero]
       go_wp2
       go_ret
       exact ⟨below_to HB0.out HB2.out HB0.out.size, by rw [← HZ.out, HCERT.out]; rfl⟩
     | true =>
       refine gt11 17 [] (.bool true) hC ?_
       refine gt11 18 [] (.bool true) hC ?_
       refine gm11 19 (.agg #[.slice A n c, .slice B m d, .slice C k e]) hC ?_
       refine gm11 20 (.pointer (some ⟨w.heap.size + 1, 3, none⟩)) hC ?_
       refine gm11 21 (.slice RA rn rc) hC ?_
       refine gm11 22 (.int .i64 (n : Int)) hC ?_
       refine gc 23 ?_
       clear hC
       simp only [List.getElem_toArray, List.getElem_cons_succ, List.getElem_cons_zero, Act.put, List.setIfInBounds_toArray, List.set_cons_succ, List.set_cons_zero]
       go_wp2_with (go_at_call 88; go_loud (with_reducible refine (rzeros_any n (by omega) _).mono ?_; rintro e2 w3 ⟨hb, zA3, zc3, rfl, hr⟩; have HB3 := Lib.hid (below_to HB2.out hb HB2.out.size); clear hb; have HZ3 := Lib.hid hr; clear hr))
       have hC := HK.out _ HB3.out
       refine behind_ok ⟨hC, ?_⟩
       refine gc 24 ?_
       clear hC
       go_wp2_with (go_at_call 86; go_loud (with_reducible refine (possible_n (HP.out _ HB3.out) (HO.out _ HB3.out).r HZ3.out).mono ?_; rintro e2 w4 ⟨hb, rfl⟩; rw [HT3.out]; have HB4 := Lib.hid (below_to HB3.out hb HB3.out.size); clear hb))
       have hC := HK.out _ HB4.out
       refine behind_ok ⟨hC, ?_⟩
       cases T3 with
       | false =>
         clear HXN
         refine gt11 25 [] (.bool false) hC ?_
         refine gt11 26 [] (.bool false) hC ?_
         refine gs 27 hC ?_
         refine gs 28 hC ?_
         refine gs 29 hC ?_
         refine gs 30 hC ?_
         refine gs 31 hC ?_
         refine gs 32 hC ?_
         refine gs 33 hC ?_
         refine gt11 34 [] (.bool false) hC ?_
         refine gt11 35 [] (.bool false) hC ?_
         refine goes_done (by kernel_rfl) ?_
         simp only [List.getElem_toArray, List.getElem_cons_succ, List.getElem_cons_zero, Act.put, List.setIfInBounds_toArray, List.set_cons_succ, List.set_cons_zero]
         go_wp2
         go_ret
         exact ⟨below_to HB0.out HB4.out HB0.out.size, by rw [← HZ.out, HCERT.out]; rfl⟩
       | true =>
         have HX1 := Lib.hid (HXN rfl)
         clear HXN
         refine gt11 25 [] (.bool true) hC ?_
         refine gt11 26 [] (.bool true) hC ?_
         refine gm11 27 (.pointer (some ⟨w.heap.size, 2, none⟩)) hC ?_
         refine gm11 28 (.slice C k e) hC ?_
         refine gm11 29 (.pointer (some ⟨w.heap.size + 1, 3, none⟩)) hC ?_
         refine gm11 30 (.slice RA rn rc) hC ?_
         refine gc 31 ?_
         clear hC
         simp only [List.getElem_toArray, List.getElem_cons_succ, List.getElem_cons_zero, Act.put, List.setIfInBounds_toArray, List.set_cons_succ, List.set_cons_zero]
         go_wp2_with (go_at_call 90; go_loud (with_reducible refine (rdot_len (HP.out _ HB4.out).c (HO.out _ HB4.out).r HX1.out hk4).mono ?_; rintro e2 w5 ⟨hb, s5, A5, n5, c5, t5, D5, m5, d5, rfl, hr⟩; have HB5 := Lib.hid (below_to HB4.out hb HB4.out.size); clear hb; have HR5 := Lib.hid hr; clear hr))
         have hC := HK.out _ HB5.out
         refine behind_ok ⟨hC, ?_⟩
         refine gc 32 ?_
         clear hC
         go_wp2_with (go_at_call 77; go_loud (with_reducible refine (rsignOfH HR5.out (Below.refl _ _) HC4.out).mono ?_; rintro e2 w6 ⟨hb, rfl⟩; have HB6 := Lib.hid (below_to HB5.out hb HB5.out.size); clear hb))
         have hC := HK.out _ HB6.out
         refine behind_ok ⟨hC, ?_⟩
         cases T4 with
         | false =>
           have r4 := f4 rfl
           refine gm11 33 (.bool false) hC ?_
           refine gt11 34 [] (.bool false) hC ?_
           refine gt11 35 [] (.bool false) hC ?_
           refine goes_done (by kernel_rfl) ?_
           simp only [List.getElem_toArray, List.getElem_cons_succ, List.getElem_cons_zero, Act.put, List.setIfInBounds_toArray, List.set_cons_succ, List.set_cons_zero]
           go_wp2
           go_ret
           exact ⟨below_to HB0.out HB6.out HB0.out.size, by rw [← HZ.out, HCERT.out]; rfl⟩
         | true =>
           have r4 := t4 rfl
           refine gm11 33 (.bool true) hC ?_
           refine gt11 34 [] (.bool true) hC ?_
           refine gt11 35 [] (.bool true) hC ?_
           refine goes_done (by kernel_rfl) ?_
           simp only [List.getElem_toArray, List.getElem_cons_succ, List.getElem_cons_zero, Act.put, List.setIfInBounds_toArray, List.set_cons_succ, List.set_cons_zero]
           go_wp2
           go_ret
           exact ⟨below_to HB0.out HB6.out HB0.out.size, by rw [← HZ.out, HCERT.out]; rfl⟩
set_option maxRecDepth 100000 in
set_option maxHeartbeats 8000000 in
theorem rcheck3 {w : World} {A B C : Option Addr} {n c m d k e : Nat} {S : List SL} {M : List (List Rat)} {BL CL : List Rat} {XA YA RA : Option Addr} {xn xc yn yc rn rc : Nat} {X Y R : List Rat} {v1 v2 : Bool} {V1 V2 : Option Addr} {p1 q1 p2 q2 : Nat} {V : Rat} {kd : Int} (k0 : ¬ kd = 0) (k1 : ¬ kd = 1) (k2 : ¬ kd = 2) (h : Ctx w A B C n c m d k e S M BL CL) (ho : Opt w XA YA RA xn xc yn yc rn rc X Y R v1 v2 V1 V2 p1 q1 p2 q2 V) : Calls Tryz.prog 47 #[.agg #[.slice A n c, .slice B m d, .slice C k e], .agg #[.int .i64 kd, .slice XA xn xc, .slice YA yn yc, .slice RA rn rc, .bool v1, .slice V1 p1 q1, .bool v2, .slice V2 p2 q2]] w fun e' w' => Below w.heap.size w w' ∧ e' = .returned (.int .i64 (if certS M BL CL kd X Y R V then (0 : Int) else 25)) := by
 have HCERT : Hid (certS M BL CL kd X Y R V = false) := Lib.hid (by unfold certS; rw [if_neg k0, if_neg k1, if_neg k2])
 have hn4 := h.n4
 have hk4 := h.k4
 have hm4 := h.mn4
 have HCT := Lib.hid h
 have HOT := Lib.hid ho
 clear h ho
 obtain ⟨Z, hZ⟩ : ∃ Z : Int, (if certS M BL CL kd X Y R V then (0 : Int) else 25) = Z := ⟨_, rfl⟩
 rw [hZ]
 have HZ := Lib.hid hZ
 clear hZ
 go_enter Tryz.func47, Tryz.ntmps47
 go_upto_region 1 with fail
 generalize hW : (World.alloc _ _) = wW
 have hb0 : Below w.heap.size w wW := by rw [← hW]; exact Below.alloc2 (Below.alloc2 (Below.refl _ _) _) _
 have hk0 : Bk wW w.heap.size 60 #[.slice A n c, .slice B m d, .slice C k e] := by rw [← hW]; exact Bk.alloc (Bk.alloc_ _ _ _) _
 have hk1 : Bk wW (w.heap.size + 1) 62 #[.int .i64 kd, .slice XA xn xc, .slice YA yn yc, .slice RA rn rc, .bool v1, .slice V1 p1 q1, .bool v2, .slice V2 p2 q2] := by rw [← hW]; exact Bk.at_ (by simp)
 have HB0 := Lib.hid hb0
 have HK : Hid (∀ w', Below wW.heap.size wW w' → (fun w' : World => w'.cell? ⟨w.heap.size, 0, none⟩ = some (.slice A n c) ∧ w'.cell? ⟨w.heap.size, 1, none⟩ = some (.slice B m d) ∧ w'.cell? ⟨w.heap.size, 2, none⟩ = some (.slice C k e) ∧ w'.cell? ⟨w.heap.size + 1, 0, none⟩ = some (.int .i64 kd) ∧ w'.cell? ⟨w.heap.size + 1, 1, none⟩ = some (.slice XA xn xc) ∧ w'.cell? ⟨w.heap.size + 1, 2, none⟩ = some (.slice YA yn yc) ∧ w'.cell? ⟨w.heap.size + 1, 3, none⟩ = some (.slice RA rn rc) ∧ w'.cell? ⟨w.heap.size + 1, 4, none⟩ = some (.bool v1) ∧ w'.cell? ⟨w.heap.size + 1, 5, none⟩ = some (.slice V1 p1 q1) ∧ w'.cell? ⟨w.heap.size + 1, 6, none⟩ = some (.bool v2) ∧ w'.cell? ⟨w.heap.size + 1, 7, none⟩ = some (.slice V2 p2 q2)) w') := Lib.hid fun w' hb => ⟨(hk0.below hb hk0.lt).trio.1, (hk0.below hb hk0.lt).trio.2.1, (hk0.below hb hk0.lt).trio.2.2, (hk1.below hb hk1.lt).eight⟩
 have HP : Hid (∀ w', Below wW.heap.size wW w' → Ctx w' A B C n c m d k e S M BL CL) := Lib.hid fun w' hb => (HCT.out.later hb0).later hb
 have HO : Hid (∀ w', Below wW.heap.size wW w' → Opt w' XA YA RA xn xc yn yc rn rc X Y R v1 v2 V1 V2 p1 q1 p2 q2 V) := Lib.hid fun w' hb => (HOT.out.later hb0).later hb
 clear hW hb0 hk0 hk1
 have HBc := Lib.hid (Below.drew (Below.refl wW.heap.size wW))
 have hC := HK.out _ HBc.out
 refine region_goes (n := 8) (fun w' : World => w'.cell? ⟨w.heap.size, 0, none⟩ = some (.slice A n c) ∧ w'.cell? ⟨w.heap.size, 1, none⟩ = some (.slice B m d) ∧ w'.cell? ⟨w.heap.size, 2, none⟩ = some (.slice C k e) ∧ w'.cell? ⟨w.heap.size + 1, 0, none⟩ = some (.int .i64 kd) ∧ w'.cell? ⟨w.heap.size + 1, 1, none⟩ = some (.slice XA xn xc) ∧ w'.cell? ⟨w.heap.size + 1, 2, none⟩ = some (.slice YA yn yc) ∧ w'.cell? ⟨w.heap.size + 1, 3, none⟩ = some (.slice RA rn rc) ∧ w'.cell? ⟨w.heap.size + 1, 4, none⟩ = some (.bool v1) ∧ w'.cell? ⟨w.heap.size + 1, 5, none⟩ = some (.slice V1 p1 q1) ∧ w'.cell? ⟨w.heap.size + 1, 6, none⟩ = some (.bool v2) ∧ w'.cell? ⟨w.heap.size + 1, 7, none⟩ = some (.slice V2 p2 q2)) [] (by kernel_rfl) rfl ?_
 refine gt11 0 [] (.pointer (some ⟨w.heap.size, 0, none⟩)) hC ?_
 refine gt11 1 [] (.slice A n c) hC ?_
 refine gt11 2 [] (.int .i64 (n : Int)) hC ?_
 refine gt11 3 [] (.pointer (some ⟨w.heap.size, 2, none⟩)) hC ?_
 refine gt11 4 [] (.slice C k e) hC ?_
 refine gt11 5 [] (.int .i64 (k : Int)) hC ?_
 refine gt11 6 [] (.int .i64 (n : Int)) hC ?_
 refine gt11 7 [] (.int .i64 (k : Int)) hC ?_
 refine goes_done (by kernel_rfl) ?_
 simp only [List.getElem_toArray, List.getElem_cons_succ, List.getElem_cons_zero, Act.put, List.setIfInBounds_toArray, List.set_cons_succ, List.set_cons_zero]
 clear hC
 obtain ⟨x0, x1, x2, x3, x4, x5, x6, x7, x8, x9, x10⟩ := HK.out _ HBc.out
 skip
 clear x0 x1 x2 x3 x4 x5 x6 x7 x8 x9 x10
 have HBd := Lib.hid (Below.drew HBc.out)
 have hC := HK.out _ HBd.out
 clear hC
 obtain ⟨x0, x1, x2, x3, x4, x5, x6, x7, x8, x9, x10⟩ := HK.out _ HBc.out
 go_wp2
 go_ret
 exact ⟨below_to HB0.out HBc.out HB0.out.size, by rw [← HZ.out, HCERT.out]; rfl⟩
end Go.Proofs.YthlfhfkfjefidaaGreat
