/- Certificates, the program: CheckOptimum. -/
import Derived.Test.YthlfhfkfjefidaaGreatVecK
namespace Go.Proofs.YthlfhfkfjefidaaGreat
open Go Go.RowKit
set_option maxRecDepth 100000 in
set_option maxHeartbeats 4000000 in
theorem checkOpt_bad {w : World} {A B C : Option Addr} {n c m d k e : Nat} {S : List SL} {XA YA RA : Option Addr} {xn xc yn yc rn rc : Nat} {v1 v2 : Bool} {V1 V2 : Option Addr} {p1 q1 p2 q2 : Nat} {kd E : Int} (h : Mt w A n c S) (hE : proS (lens S) m k = E) (h0 : ¬ E = 0) :
 Calls Tryz.prog 45 #[.agg #[.slice A n c, .slice B m d, .slice C k e], .agg #[.int .i64 kd, .slice XA xn xc, .slice YA yn yc, .slice RA rn rc, .bool v1, .slice V1 p1 q1, .bool v2, .slice V2 p2 q2]] w fun e' w' => Below w.heap.size w w' ∧ e' = .returned (.int .i64 E) := by
 have HM := Lib.hid h
 have HE := Lib.hid hE
 clear h hE
 go_enter Tryz.func45, Tryz.ntmps45
 go_upto_region 1 with fail
 generalize hW : (World.alloc _ _) = wW
 have hb0 : Below w.heap.size w wW := by rw [← hW]; exact Below.alloc2 (Below.alloc2 (Below.refl _ _) _) _
 have hk0 : Bk wW w.heap.size 60 #[.slice A n c, .slice B m d, .slice C k e] := by rw [← hW]; exact Bk.alloc (Bk.alloc_ _ _ _) _
 have HB0 := Lib.hid hb0
 have HM0 := Lib.hid (HM.out.later hb0)
 obtain ⟨x0, x1, x2⟩ := hk0.trio
 clear hW hb0 hk0
 go_wp2_with (go_at_call 79; go_loud (with_reducible refine (programError_any HM0.out).mono ?_; rintro e2 w1 ⟨hb, rfl⟩; rw [HE.out]; have HB1 := Lib.hid (below_to HB0.out hb HB0.out.size); clear hb x0 x1 x2))
 go_ret
 exact ⟨HB1.out, rfl⟩
set_option maxRecDepth 100000 in
set_option maxHeartbeats 8000000 in
theorem checkOpt_any {w : World} {A B C : Option Addr} {n c m d k e : Nat} {S : List SL} {M : List (List Rat)} {BL CL : List Rat} {XA YA RA : Option Addr} {xn xc yn yc rn rc : Nat} {X Y R : List Rat} {v1 v2 : Bool} {V1 V2 : Option Addr} {p1 q1 p2 q2 : Nat} {V : Rat} {kd : Int} (h : Ctx w A B C n c m d k e S M BL CL) (ho : Opt w XA YA RA xn xc yn yc rn rc X Y R v1 v2 V1 V2 p1 q1 p2 q2 V) (hE : proS (lens S) m k = 0) : Calls Tryz.prog 45 #[.agg #[.slice A n c, .slice B m d, .slice C k e], .agg #[.int .i64 kd, .slice XA xn xc, .slice YA yn yc, .slice RA rn rc, .bool v1, .slice V1 p1 q1, .bool v2, .slice V2 p2 q2]] w fun e' w' => Below w.heap.size w w' ∧ e' = .returned (.int .i64 (if certS M BL CL kd X Y R V then 0 else 25)) := by
 obtain ⟨Z, hZ⟩ : ∃ Z : Int, (if certS M BL CL kd X Y R V then (0 : Int) else 25) = Z := ⟨_, rfl⟩
 rw [hZ]
 have HZ := Lib.hid hZ
 clear hZ
 have HE := Lib.hid hE
 have HL := Lib.hid (And.intro ho.x.len (And.intro ho.y.len ho.r.len))
 clear hE
 have HCT := Lib.hid h
 have HOT := Lib.hid ho
 go_enter Tryz.func45, Tryz.ntmps45
 go_upto_region 1 with fail
 generalize hW : (World.alloc _ _) = wW
 have hb0 : Below w.heap.size w wW := by rw [← hW]; exact Below.alloc2 (Below.alloc2 (Below.refl _ _) _) _
 have hk0 : Bk wW w.heap.size 60 #[.slice A n c, .slice B m d, .slice C k e] := by rw [← hW]; exact Bk.alloc (Bk.alloc_ _ _ _) _
 have hk1 : Bk wW (w.heap.size + 1) 62 #[.int .i64 kd, .slice XA xn xc, .slice YA yn yc, .slice RA rn rc, .bool v1, .slice V1 p1 q1, .bool v2, .slice V2 p2 q2] := by rw [← hW]; exact Bk.at_ (by simp)
 have HB0 := Lib.hid hb0
 have HK : Hid (∀ w', Below wW.heap.size wW w' → (fun w' : World => w'.cell? ⟨w.heap.size, 0, none⟩ = some (.slice A n c) ∧ w'.cell? ⟨w.heap.size, 1, none⟩ = some (.slice B m d) ∧ w'.cell? ⟨w.heap.size, 2, none⟩ = some (.slice C k e) ∧ w'.cell? ⟨w.heap.size + 1, 0, none⟩ = some (.int .i64 kd) ∧ w'.cell? ⟨w.heap.size + 1, 1, none⟩ = some (.slice XA xn xc) ∧ w'.cell? ⟨w.heap.size + 1, 2, none⟩ = some (.slice YA yn yc) ∧ w'.cell? ⟨w.heap.size + 1, 3, none⟩ = some (.slice RA rn rc) ∧ w'.cell? ⟨w.heap.size + 1, 4, none⟩ = some (.bool v1) ∧ w'.cell? ⟨w.heap.size + 1, 5, none⟩ = some (.slice V1 p1 q1) ∧ w'.cell? ⟨w.heap.size + 1, 6, none⟩ = some (.bool v2) ∧ w'.cell? ⟨w.heap.size + 1, 7, none⟩ = some (.slice V2 p2 q2)) w') := Lib.hid fun w' hb => ⟨(hk0.below hb hk0.lt).trio.1, (hk0.below hb hk0.lt).trio.2.1, (hk0.below hb hk0.lt).trio.2.2, (hk1.below hb hk1.lt).eight⟩
 have HP : Hid (∀ w', Below wW.heap.size wW w' → Ctx w' A B C n c m d k e S M BL CL) := Lib.hid fun w' hb => (HCT.out.later hb0).later hb
 have HO : Hid (∀ w', Below wW.heap.size wW w' → Opt w' XA YA RA xn xc yn yc rn rc X Y R v1 v2 V1 V2 p1 q1 p2 q2 V) := Lib.hid fun w' hb => (HOT.out.later hb0).later hb
 have HBd := Lib.hid (Below.refl wW.heap.size wW)
 clear hW hb0 hk0 hk1 h ho
 obtain ⟨x0, x1, x2, x3, x4, x5, x6, x7, x8, x9, x10⟩ := HK.out _ HBd.out
 go_upto_region 2 with (go_at_call 79; go_loud (with_reducible refine (programError_any (HP.out _ HBd.out).mt).mono ?_; rintro e2 w1 ⟨hb, rfl⟩; rw [HE.out]; have HB1 := Lib.hid (below_to HBd.out hb HBd.out.size); clear hb; obtain ⟨x0, x1, x2, x3, x4, x5, x6, x7, x8, x9, x10⟩ := HK.out _ HB1.out))
 by_cases k0 : kd = 0
 · have hcert : certS M BL CL kd X Y R V = (decide (rn = 0) && (belS M CL X BL && (aboS M BL Y CL && (decide (dotQ CL X = V) && decide (dotQ Y BL = V))))) := by unfold certS; rw [if_pos k0, HL.out.2.2]
   by_cases q : rn = 0
   · have r1 : (rn : Int) = 0 := by omega
     obtain ⟨T, hT⟩ : ∃ T, (belS M CL X BL && (aboS M BL Y CL && (decide (dotQ CL X = V) && decide (dotQ Y BL = V)))) = T := ⟨_, rfl⟩
     have HT := Lib.hid hT
     rw [decide_eq_true q, hT, Bool.true_and] at hcert
     have HR := Lib.hid hcert
     clear hcert hT q
     cases T <;> (go_wp2_with (go_at_call 80; go_loud (with_reducible refine (isBest_any (HP.out _ HB1.out) (HO.out _ HB1.out)).mono ?_; rintro e2 w2 ⟨hb, rfl⟩; rw [HT.out]; have HB2 := Lib.hid (below_to HB1.out hb HB1.out.size); clear hb; obtain ⟨x0, x1, x2, x3, x4, x5, x6, x7, x8, x9, x10⟩ := HK.out _ HB2.out)); go_ret; exact ⟨below_to HB0.out HB2.out HB0.out.size, by rw [← HZ.out, HR.out]; rfl⟩)
   · have r1 : ¬ (rn : Int) = 0 := by omega
     rw [decide_eq_false q, Bool.false_and] at hcert
     have HR := Lib.hid hcert
     clear hcert
     go_wp2
     go_ret
     exact ⟨below_to HB0.out HB1.out HB0.out.size, by rw [← HZ.out, HR.out]; rfl⟩
 · by_cases k1 : kd = 1
   · have hcert : certS M BL CL kd X Y R V = (decide (xn = 0) && (decide (rn = 0) && (decide (V = 0) && (aboS M BL Y (zer CL.length) && decide (dotQ Y BL < 0))))) := by unfold certS; rw [if_neg k0, if_pos k1, HL.out.2.2, HL.out.1]
     clear k0
     by_cases q : xn = 0
     · have r1 : (xn : Int) = 0 := by omega
       rw [decide_eq_true q, Bool.true_and] at hcert
       by_cases qq : rn = 0
       · have r2 : (rn : Int) = 0 := by omega
         rw [decide_eq_true qq, Bool.true_and] at hcert
         obtain ⟨T5, h5⟩ : ∃ T, decide (V = 0) = T := ⟨_, rfl⟩
         obtain ⟨C5, hc5, t5, f5⟩ := cmp_same h5
         have HC5 := Lib.hid hc5
         rw [h5] at hcert
         clear q qq hc5 h5
         cases T5 with
         | false =>
           have r5 := f5 rfl
           have HR := Lib.hid hcert
           clear hcert t5 f5
           go_wp2_with (go_at_call 81; go_loud (with_reducible refine (signRH (HO.out _ HB1.out).v (Below.refl _ _) HC5.out).mono ?_; rintro e2 w2 ⟨hb, rfl⟩; have HB2 := Lib.hid (below_to HB1.out hb HB1.out.size); clear hb; obtain ⟨x0, x1, x2, x3, x4, x5, x6, x7, x8, x9, x10⟩ := HK.out _ HB2.out))
           go_ret
           exact ⟨below_to HB0.out HB2.out HB0.out.size, by rw [← HZ.out, HR.out]; rfl⟩
         | true =>
           have r5 := t5 rfl
           obtain ⟨T, hT⟩ : ∃ T, (aboS M BL Y (zer CL.length) && decide (dotQ Y BL < 0)) = T := ⟨_, rfl⟩
           have HT := Lib.hid hT
           rw [hT, Bool.true_and] at hcert
           have HR := Lib.hid hcert
           clear hcert hT t5 f5
           cases T <;> (go_wp2_with (first | (go_at_call 81; go_loud (with_reducible refine (signRH (HO.out _ HB1.out).v (Below.refl _ _) HC5.out).mono ?_; rintro e2 w2 ⟨hb, rfl⟩; have HB2 := Lib.hid (below_to HB1.out hb HB1.out.size); clear hb; obtain ⟨x0, x1, x2, x3, x4, x5, x6, x7, x8, x9, x10⟩ := HK.out _ HB2.out)) | (go_at_call 82; go_loud (with_reducible refine (isImpossible_any (HP.out _ HB2.out) (HO.out _ HB2.out).y).mono ?_; rintro e2 w3 ⟨hb, rfl⟩; rw [HT.out]; have HB3 := Lib.hid (below_to HB2.out hb HB2.out.size); clear hb; obtain ⟨x0, x1, x2, x3, x4, x5, x6, x7, x8, x9, x10⟩ := HK.out _ HB3.out))); go_ret; exact ⟨below_to HB0.out HB3.out HB0.out.size, by rw [← HZ.out, HR.out]; rfl⟩)
       · have r2 : ¬ (rn : Int) = 0 := by omega
         rw [decide_eq_false qq, Bool.false_and] at hcert
         have HR := Lib.hid hcert
         clear hcert q
         go_wp2
         go_ret
         exact ⟨below_to HB0.out HB1.out HB0.out.size, by rw [← HZ.out, HR.out]; rfl⟩
     · have r1 : ¬ (xn : Int) = 0 := by omega
       rw [decide_eq_false q, Bool.false_and] at hcert
       have HR := Lib.hid hcert
       clear hcert
       go_wp2
       go_ret
       exact ⟨below_to HB0.out HB1.out HB0.out.size, by rw [← HZ.out, HR.out]; rfl⟩
   · by_cases k2 : kd = 2
     · have hcert : certS M BL CL kd X Y R V = (decide (yn = 0) && (decide (V = 0) && (belS M CL X BL && (belS M CL R (zer BL.length) && decide (0 < dotQ CL R))))) := by unfold certS; rw [if_neg k0, if_neg k1, if_pos k2, HL.out.2.1]
       clear k0 k1
       by_cases q : yn = 0
       · have r1 : (yn : Int) = 0 := by omega
         rw [decide_eq_true q, Bool.true_and] at hcert
         obtain ⟨T5, h5⟩ : ∃ T, decide (V = 0) = T := ⟨_, rfl⟩
         obtain ⟨C5, hc5, t5, f5⟩ := cmp_same h5
         have HC5 := Lib.hid hc5
         rw [h5] at hcert
         clear q hc5 h5
         cases T5 with
         | false =>
           have r5 := f5 rfl
           have HR := Lib.hid hcert
           clear hcert t5 f5
           go_wp2_with (go_at_call 81; go_loud (with_reducible refine (signRH (HO.out _ HB1.out).v (Below.refl _ _) HC5.out).mono ?_; rintro e2 w2 ⟨hb, rfl⟩; have HB2 := Lib.hid (below_to HB1.out hb HB1.out.size); clear hb; obtain ⟨x0, x1, x2, x3, x4, x5, x6, x7, x8, x9, x10⟩ := HK.out _ HB2.out))
           go_ret
           exact ⟨below_to HB0.out HB2.out HB0.out.size, by rw [← HZ.out, HR.out]; rfl⟩
         | true =>
           have r5 := t5 rfl
           obtain ⟨T, hT⟩ : ∃ T, (belS M CL X BL && (belS M CL R (zer BL.length) && decide (0 < dotQ CL R))) = T := ⟨_, rfl⟩
           have HT := Lib.hid hT
           rw [hT, Bool.true_and] at hcert
           have HR := Lib.hid hcert
           clear hcert hT t5 f5
           cases T <;> (go_wp2_with (first | (go_at_call 81; go_loud (with_reducible refine (signRH (HO.out _ HB1.out).v (Below.refl _ _) HC5.out).mono ?_; rintro e2 w2 ⟨hb, rfl⟩; have HB2 := Lib.hid (below_to HB1.out hb HB1.out.size); clear hb; obtain ⟨x0, x1, x2, x3, x4, x5, x6, x7, x8, x9, x10⟩ := HK.out _ HB2.out)) | (go_at_call 83; go_loud (with_reducible refine (isUnbounded_any (HP.out _ HB2.out) (HO.out _ HB2.out)).mono ?_; rintro e2 w3 ⟨hb, rfl⟩; rw [HT.out]; have HB3 := Lib.hid (below_to HB2.out hb HB2.out.size); clear hb; obtain ⟨x0, x1, x2, x3, x4, x5, x6, x7, x8, x9, x10⟩ := HK.out _ HB3.out))); go_ret; exact ⟨below_to HB0.out HB3.out HB0.out.size, by rw [← HZ.out, HR.out]; rfl⟩)
       · have r1 : ¬ (yn : Int) = 0 := by omega
         rw [decide_eq_false q, Bool.false_and] at hcert
         have HR := Lib.hid hcert
         clear hcert
         go_wp2
         go_ret
         exact ⟨below_to HB0.out HB1.out HB0.out.size, by rw [← HZ.out, HR.out]; rfl⟩
     · have HR : Hid (certS M BL CL kd X Y R V = false) := Lib.hid (by unfold certS; rw [if_neg k0, if_neg k1, if_neg k2])
       go_wp2
       go_ret
       exact ⟨below_to HB0.out HB1.out HB0.out.size, by rw [← HZ.out, HR.out]; rfl⟩
end Go.Proofs.YthlfhfkfjefidaaGreat
