/- Certificates, the program: best, impossible, unbounded. -/
import Derived.Test.YthlfhfkfjefidaaGreatVec2
namespace Go.Proofs.YthlfhfkfjefidaaGreat
open Go Go.RowKit
structure Ctx (w : World) (A B C : Option Addr) (n c m d k e : Nat) (S : List SL) (M : List (List Rat)) (BL CL : List Rat) : Prop where
 mt : Mt w A n c S
 mq : MtQ w S M 3
 wd : ∀ (i : Nat) (s : SL), S[i]? = some s → s.m = k
 b : Rts w B m d BL 3
 c : Rts w C k e CL 3
 mn : m = n
 n4 : n ≤ 4
 k4 : k ≤ 4
theorem Ctx.later {w w' : World} {A B C : Option Addr} {n c m d k e : Nat} {S : List SL} {M : List (List Rat)} {BL CL : List Rat} (h : Ctx w A B C n c m d k e S M BL CL) (hb : Below w.heap.size w w') : Ctx w' A B C n c m d k e S M BL CL := ⟨h.mt.later hb, h.mq.later hb, h.wd, h.b.later hb, h.c.later hb, h.mn, h.n4, h.k4⟩
structure Opt (w : World) (XA YA RA : Option Addr) (xn xc yn yc rn rc : Nat) (X Y R : List Rat) (v1 v2 : Bool) (V1 V2 : Option Addr) (p1 q1 p2 q2 : Nat) (V : Rat) : Prop where
 x : Rts w XA xn xc X 3
 y : Rts w YA yn yc Y 3
 r : Rts w RA rn rc R 3
 v : RatH w v1 V1 p1 q1 v2 V2 p2 q2 V 3 false
theorem Opt.later {w w' : World} {XA YA RA : Option Addr} {xn xc yn yc rn rc : Nat} {X Y R : List Rat} {v1 v2 : Bool} {V1 V2 : Option Addr} {p1 q1 p2 q2 : Nat} {V : Rat} (h : Opt w XA YA RA xn xc yn yc rn rc X Y R v1 v2 V1 V2 p1 q1 p2 q2 V) (hb : Below w.heap.size w w') : Opt w' XA YA RA xn xc yn yc rn rc X Y R v1 v2 V1 V2 p1 q1 p2 q2 V := ⟨h.x.later hb, h.y.later hb, h.r.later hb, h.v.aft hb⟩
theorem Ctx.bel {w : World} {A B C : Option Addr} {n c m d k e : Nat} {S : List SL} {M : List (List Rat)} {BL CL : List Rat} {xA lA : Option Addr} {xn xc lc : Nat} {X Lm : List Rat} (h : Ctx w A B C n c m d k e S M BL CL) (hx : Rts w xA xn xc X 3) (hl : Rts w lA m lc Lm 3) :
 Calls Tryz.prog 113 #[.agg #[.slice A n c, .slice B m d, .slice C k e], .slice xA xn xc, .slice lA m lc] w fun e' w' => Below w.heap.size w w' ∧ e' = .returned (.bool (belS M CL X Lm)) := by
 have h1 := h.mn
 subst h1
 exact staysBelow_any h.mt h.mq h.wd h.c.len hx hl h.k4
theorem Ctx.abo {w : World} {A B C : Option Addr} {n c m d k e : Nat} {S : List SL} {M : List (List Rat)} {BL CL : List Rat} {xA lA : Option Addr} {xn xc lc : Nat} {X Lm : List Rat} (h : Ctx w A B C n c m d k e S M BL CL) (hx : Rts w xA xn xc X 3) (hl : Rts w lA k lc Lm 3) :
 Calls Tryz.prog 114 #[.agg #[.slice A n c, .slice B m d, .slice C k e], .slice xA xn xc, .slice lA k lc] w fun e' w' => Below w.heap.size w w' ∧ e' = .returned (.bool (aboS M BL X Lm)) :=
 staysAbove_any h.mt h.mq h.wd h.mn h.b.len hx hl h.n4
theorem mul_small {n : Nat} (h : n ≤ 4) : n * (n * 8 + 11) + (n * 8 + 2) ≤ 300 := by
 match n, h with
 | 0, _ => decide
 | 1, _ => decide
 | 2, _ => decide
 | 3, _ => decide
 | 4, _ => decide
 | n + 5, h => omega
theorem product_len {w : World} {A B : Option Addr} {n1 n2 c d : Nat} {L M : List Rat} (h1 : Rts w A n1 c L 3) (h2 : Rts w B n2 d M 3) (hn : n1 = n2) (h4 : n1 ≤ 4) :
 Calls Tryz.prog 115 #[.slice A n1 c, .slice B n2 d] w (RatOut (dotQ L M) 300 w) := by
 subst hn
 refine (product_any h1 h2 (by omega)).mono ?_
 rintro e w' ⟨hb, s1, A1, m1, c1, s2, A2, m2, c2, rfl, hr⟩
 exact ⟨hb, _, _, _, _, _, _, _, _, rfl, hr.wid (mul_small h4)⟩
theorem bel_len {M : List (List Rat)} {C X l : List Rat} (h : belS M C X l = true) : X.length = C.length := by
 unfold belS at h
 simp only [Bool.and_eq_true, decide_eq_true_eq] at h
 exact h.1
theorem abo_len {M : List (List Rat)} {B Y l : List Rat} (h : aboS M B Y l = true) : Y.length = B.length := by
 unfold aboS at h
 simp only [Bool.and_eq_true, decide_eq_true_eq] at h
 exact h.1
theorem cmp_same {a b : Rat} {T : Bool} (h : decide (a = b) = T) : ∃ C : Int, cmpQ a b = C ∧ (T = true → C = 0) ∧ (T = false → ¬ C = 0) := by
 refine ⟨_, rfl, fun hT => ?_, fun hT => ?_⟩
 · rw [hT] at h
   have := of_decide_eq_true h
   exact cmpQ_eq this
 · rw [hT] at h
   have := of_decide_eq_false h
   rcases cmpQ_cases a b with ⟨h1, e⟩ | ⟨h1, e⟩ | ⟨h1, e⟩
   · omega
   · exact absurd h1 this
   · omega
theorem sign_below {a : Rat} {T : Bool} (h : decide (a < 0) = T) : ∃ C : Int, cmpQ a 0 = C ∧ (T = true → C < 0) ∧ (T = false → ¬ C < 0) := by
 obtain ⟨C, h1, h2, -, -⟩ := sign_neg a
 refine ⟨C, h1, fun hT => ?_, fun hT => ?_⟩
 · exact of_decide_eq_true (by rw [h2, h, hT])
 · exact of_decide_eq_false (by rw [h2, h, hT])
theorem sign_above {a : Rat} {T : Bool} (h : decide (0 < a) = T) : ∃ C : Int, cmpQ a 0 = C ∧ (T = true → 0 < C) ∧ (T = false → ¬ 0 < C) := by
 obtain ⟨C, h1, -, h2, -⟩ := sign_neg a
 refine ⟨C, h1, fun hT => ?_, fun hT => ?_⟩
 · exact of_decide_eq_true (by rw [h2, h, hT])
 · exact of_decide_eq_false (by rw [h2, h, hT])
theorem Bk.eight {w : World} {g t : Nat} {a b c d e f u v : Value} (h : Bk w g t #[a, b, c, d, e, f, u, v]) : w.cell? ⟨g, 0, none⟩ = some a ∧ w.cell? ⟨g, 1, none⟩ = some b ∧ w.cell? ⟨g, 2, none⟩ = some c ∧ w.cell? ⟨g, 3, none⟩ = some d ∧ w.cell? ⟨g, 4, none⟩ = some e ∧ w.cell? ⟨g, 5, none⟩ = some f ∧ w.cell? ⟨g, 6, none⟩ = some u ∧ w.cell? ⟨g, 7, none⟩ = some v :=
 ⟨by simpa using h.cell 0, by simpa using h.cell 1, by simpa using h.cell 2, by simpa using h.cell 3, by simpa using h.cell 4, by simpa using h.cell 5, by simpa using h.cell 6, by simpa using h.cell 7⟩
set_option maxRecDepth 100000 in
set_option maxHeartbeats 8000000 in
theorem isBest_any {w : World} {A B C : Option Addr} {n c m d k e : Nat} {S : List SL} {M : List (List Rat)} {BL CL : List Rat} {XA YA RA : Option Addr} {xn xc yn yc rn rc : Nat} {X Y R : List Rat} {v1 v2 : Bool} {V1 V2 : Option Addr} {p1 q1 p2 q2 : Nat} {V : Rat} {kd : Int} (h : Ctx w A B C n c m d k e S M BL CL) (ho : Opt w XA YA RA xn xc yn yc rn rc X Y R v1 v2 V1 V2 p1 q1 p2 q2 V) :
 Calls Tryz.prog 80 #[.agg #[.slice A n c, .slice B m d, .slice C k e], .agg #[.int .i64 kd, .slice XA xn xc, .slice YA yn yc, .slice RA rn rc, .bool v1, .slice V1 p1 q1, .bool v2, .slice V2 p2 q2]] w fun e' w' => Below w.heap.size w w' ∧ e' = .returned (.bool (belS M CL X BL && (aboS M BL Y CL && (decide (dotQ CL X = V) && decide (dotQ Y BL = V))))) := by
 obtain ⟨T1, h1⟩ : ∃ T, belS M CL X BL = T := ⟨_, rfl⟩
 obtain ⟨T2, h2⟩ : ∃ T, aboS M BL Y CL = T := ⟨_, rfl⟩
 obtain ⟨T3, h3⟩ : ∃ T, decide (dotQ CL X = V) = T := ⟨_, rfl⟩
 obtain ⟨T4, h4⟩ : ∃ T, decide (dotQ Y BL = V) = T := ⟨_, rfl⟩
 obtain ⟨C3, hc3, t3, f3⟩ := cmp_same h3
 obtain ⟨C4, hc4, t4, f4⟩ := cmp_same h4
 have HT1 := Lib.hid h1
 have HT2 := Lib.hid h2
 have HT3 := Lib.hid h3
 have HT4 := Lib.hid h4
 have HC3 := Lib.hid hc3
 have HC4 := Lib.hid hc4
 clear h1 h2 h3 h4 hc3 hc4
 have HCT := Lib.hid h
 have HOT := Lib.hid ho
 have hn4 := h.n4
 have hk4 := h.k4
 have hm4 : m ≤ 4 := by have h1 := h.mn; omega
 clear h ho
 go_enter Tryz.func80, Tryz.ntmps80
 go_upto_region 1 with fail
 generalize hW : (World.alloc _ _) = wW
 have hb0 : Below w.heap.size w wW := by rw [← hW]; exact Below.alloc2 (Below.alloc2 (Below.refl _ _) _) _
 have hk0 : Bk wW w.heap.size 60 #[.slice A n c, .slice B m d, .slice C k e] := by rw [← hW]; exact Bk.alloc (Bk.alloc_ _ _ _) _
 have hk1 : Bk wW (w.heap.size + 1) 62 #[.int .i64 kd, .slice XA xn xc, .slice YA yn yc, .slice RA rn rc, .bool v1, .slice V1 p1 q1, .bool v2, .slice V2 p2 q2] := by rw [← hW]; exact Bk.at_ (by simp)
 have HB0 := Lib.hid hb0
 have HK : Hid (∀ w', Below wW.heap.size wW w' → (fun w' : World => w'.cell? ⟨w.heap.size, 0, none⟩ = some (.slice A n c) ∧ w'.cell? ⟨w.heap.size, 1, none⟩ = some (.slice B m d) ∧ w'.cell? ⟨w.heap.size, 2, none⟩ = some (.slice C k e) ∧ w'.cell? ⟨w.heap.size + 1, 0, none⟩ = some (.int .i64 kd) ∧ w'.cell? ⟨w.heap.size + 1, 1, none⟩ = some (.slice XA xn xc) ∧ w'.cell? ⟨w.heap.size + 1, 2, none⟩ = some (.slice YA yn yc) ∧ w'.cell? ⟨w.heap.size + 1, 3, none⟩ = some (.slice RA rn rc) ∧ w'.cell? ⟨w.heap.size + 1, 4, none⟩ = some (.bool v1) ∧ w'.cell? ⟨w.heap.size + 1, 5, none⟩ = some (.slice V1 p1 q1) ∧ w'.cell? ⟨w.heap.size + 1, 6, none⟩ = some (.bool v2) ∧ w'.cell? ⟨w.heap.size + 1, 7, none⟩ = some (.slice V2 p2 q2)) w') := Lib.hid fun w' hb => ⟨(hk0.below hb hk0.lt).trio.1, (hk0.below hb hk0.lt).trio.2.1, (hk0.below hb hk0.lt).trio.2.2, (hk1.below hb hk1.lt).eight⟩
 have HP : Hid (∀ w', Below wW.heap.size wW w' → Ctx w' A B C n c m d k e S M BL CL) := Lib.hid fun w' hb => (HCT.out.later hb0).later hb
 have HO : Hid (∀ w', Below wW.heap.size wW w' → Opt w' XA YA RA xn xc yn yc rn rc X Y R v1 v2 V1 V2 p1 q1 p2 q2 V) := Lib.hid fun w' hb => (HOT.out.later hb0).later hb
 clear hW hb0 hk0 hk1
 have HBd := Lib.hid (Below.drew (Below.refl wW.heap.size wW))
 have hC := HK.out _ HBd.out
 refine region_goes (n := 37) (fun w' : World => w'.cell? ⟨w.heap.size, 0, none⟩ = some (.slice A n c) ∧ w'.cell? ⟨w.heap.size, 1, none⟩ = some (.slice B m d) ∧ w'.cell? ⟨w.heap.size, 2, none⟩ = some (.slice C k e) ∧ w'.cell? ⟨w.heap.size + 1, 0, none⟩ = some (.int .i64 kd) ∧ w'.cell? ⟨w.heap.size + 1, 1, none⟩ = some (.slice XA xn xc) ∧ w'.cell? ⟨w.heap.size + 1, 2, none⟩ = some (.slice YA yn yc) ∧ w'.cell? ⟨w.heap.size + 1, 3, none⟩ = some (.slice RA rn rc) ∧ w'.cell? ⟨w.heap.size + 1, 4, none⟩ = some (.bool v1) ∧ w'.cell? ⟨w.heap.size + 1, 5, none⟩ = some (.slice V1 p1 q1) ∧ w'.cell? ⟨w.heap.size + 1, 6, none⟩ = some (.bool v2) ∧ w'.cell? ⟨w.heap.size + 1, 7, none⟩ = some (.slice V2 p2 q2)) [] (by kernel_rfl) rfl ?_
 refine gt11 0 [] (.agg #[.slice A n c, .slice B m d, .slice C k e]) hC ?_
 refine gt11 1 [] (.pointer (some ⟨w.heap.size + 1, 1, none⟩)) hC ?_
 refine gt11 2 [] (.slice XA xn xc) hC ?_
 refine gt11 3 [] (.pointer (some ⟨w.heap.size, 1, none⟩)) hC ?_
 refine gt11 4 [] (.slice B m d) hC ?_
 refine gc 5 ?_
 clear hC
 simp only [List.getElem_toArray, List.getElem_cons_succ, List.getElem_cons_zero, Act.put, List.setIfInBounds_toArray, List.set_cons_succ, List.set_cons_zero]
 go_wp2_with (go_at_call 113; go_loud (with_reducible refine (Ctx.bel (HP.out _ HBd.out) (HO.out _ HBd.out).x (HP.out _ HBd.out).b).mono ?_; rintro e2 w1 ⟨hb, rfl⟩; rw [HT1.out]; have HB1 := Lib.hid (below_to HBd.out hb HBd.out.size); clear hb))
 have hC := HK.out _ HB1.out
 refine behind_ok ⟨hC, ?_⟩
 cases T1 with
 | false =>
   refine gt11 6 [] (.bool false) hC ?_
   refine gs 7 hC ?_
   refine gs 8 hC ?_
   refine gs 9 hC ?_
   refine gs 10 hC ?_
   refine gs 11 hC ?_
   refine gs 12 hC ?_
   refine gt11 13 [] (.bool false) hC ?_
   refine gt11 14 [] (.bool false) hC ?_
   refine gs 15 hC ?_
   refine gs 16 hC ?_
   refine gs 17 hC ?_
   refine gs 18 hC ?_
   refine gs 19 hC ?_
   refine gs 20 hC ?_
   refine gs 21 hC ?_
   refine gs 22 hC ?_
   refine gs 23 hC ?_
   refine gt11 24 [] (.bool false) hC ?_
   refine gt11 25 [] (.bool false) hC ?_
   refine gs 26 hC ?_
   refine gs 27 hC ?_
   refine gs 28 hC ?_
   refine gs 29 hC ?_
   refine gs 30 hC ?_
   refine gs 31 hC ?_
   refine gs 32 hC ?_
   refine gs 33 hC ?_
   refine gs 34 hC ?_
   refine gt11 35 [] (.bool false) hC ?_
   refine gt11 36 [] (.bool false) hC ?_
   refine goes_done (by kernel_rfl) ?_
   simp only [List.getElem_toArray, List.getElem_cons_succ, List.getElem_cons_zero, Act.put, List.setIfInBounds_toArray, List.set_cons_succ, List.set_cons_zero]
   go_wp2
   go_ret
   exact ⟨below_to HB0.out HB1.out HB0.out.size, by rw [HT1.out, HT2.out, HT3.out, HT4.out]; rfl⟩
 | true =>
   have HXN : Hid (k = xn) := Lib.hid (by have := bel_len HT1.out; rw [HOT.out.x.len, HCT.out.c.len] at this; exact this.symm)
   refine gt11 6 [] (.bool true) hC ?_
   refine gm11 7 (.agg #[.slice A n c, .slice B m d, .slice C k e]) hC ?_
   refine gm11 8 (.pointer (some ⟨w.heap.size + 1, 2, none⟩)) hC ?_
   refine gm11 9 (.slice YA yn yc) hC ?_
   refine gm11 10 (.pointer (some ⟨w.heap.size, 2, none⟩)) hC ?_
   refine gm11 11 (.slice C k e) hC ?_
   refine gc 12 ?_
   clear hC
   simp only [List.getElem_toArray, List.getElem_cons_succ, List.getElem_cons_zero, Act.put, List.setIfInBounds_toArray, List.set_cons_succ, List.set_cons_zero]
   go_wp2_with (go_at_call 114; go_loud (with_reducible refine (Ctx.abo (HP.out _ HB1.out) (HO.out _ HB1.out).y (HP.out _ HB1.out).c).mono ?_; rintro e2 w2 ⟨hb, rfl⟩; rw [HT2.out]; have HB2 := Lib.hid (below_to HB1.out hb HB1.out.size); clear hb))
   have hC := HK.out _ HB2.out
   refine behind_ok ⟨hC, ?_⟩
   cases T2 with
   | false =>
     refine gt11 13 [] (.bool false) hC ?_
     refine gt11 14 [] (.bool false) hC ?_
     refine gs 15 hC ?_
     refine gs 16 hC ?_
     refine gs 17 hC ?_
     refine gs 18 hC ?_
     refine gs 19 hC ?_
     refine gs 20 hC ?_
     refine gs 21 hC ?_
     refine gs 22 hC ?_
     refine gs 23 hC ?_
     refine gt11 24 [] (.bool false) hC ?_
     refine gt11 25 [] (.bool false) hC ?_
     refine gs 26 hC ?_
     refine gs 27 hC ?_
     refine gs 28 hC ?_
     refine gs 29 hC ?_
     refine gs 30 hC ?_
     refine gs 31 hC ?_
     refine gs 32 hC ?_
     refine gs 33 hC ?_
     refine gs 34 hC ?_
     refine gt11 35 [] (.bool false) hC ?_
     refine gt11 36 [] (.bool false) hC ?_
     refine goes_done (by kernel_rfl) ?_
     simp only [List.getElem_toArray, List.getElem_cons_succ, List.getElem_cons_zero, Act.put, List.setIfInBounds_toArray, List.set_cons_succ, List.set_cons_zero]
     go_wp2
     go_ret
     exact ⟨below_to HB0.out HB2.out HB0.out.size, by rw [HT1.out, HT2.out, HT3.out, HT4.out]; rfl⟩
   | true =>
     have HYN : Hid (yn = m) := Lib.hid (by have := abo_len HT2.out; rwa [HOT.out.y.len, HCT.out.b.len] at this)
     refine gt11 13 [] (.bool true) hC ?_
     refine gt11 14 [] (.bool true) hC ?_
     refine gm11 15 (.pointer (some ⟨w.heap.size, 2, none⟩)) hC ?_
     refine gm11 16 (.slice C k e) hC ?_
     refine gm11 17 (.pointer (some ⟨w.heap.size + 1, 1, none⟩)) hC ?_
     refine gm11 18 (.slice XA xn xc) hC ?_
     refine gm11 20 (.pointer (some ⟨w.heap.size + 1, 4, none⟩)) hC ?_
     refine gm11 21 (.agg #[.bool v1, .slice V1 p1 q1, .bool v2, .slice V2 p2 q2]) hC ?_
     refine gc 19 ?_
     clear hC
     simp only [List.getElem_toArray, List.getElem_cons_succ, List.getElem_cons_zero, Act.put, List.setIfInBounds_toArray, List.set_cons_succ, List.set_cons_zero]
     go_wp2_with (go_at_call 115; go_loud (with_reducible refine (product_len (HP.out _ HB2.out).c (HO.out _ HB2.out).x HXN.out (HP.out _ HB2.out).k4).mono ?_; rintro e2 w3 ⟨hb, s3, A3, n3, c3, t3, D3, m3, d3, rfl, hr⟩; have HB3 := Lib.hid (below_to HB2.out hb HB2.out.size); clear hb; have HR3 := Lib.hid hr; clear hr))
     have hC := HK.out _ HB3.out
     refine behind_ok ⟨hC, ?_⟩
     refine gc 22 ?_
     clear hC
     go_wp2_with (go_at_call 40; go_loud (with_reducible refine (cmpRH HR3.out (HO.out _ HB3.out).v (Below.refl _ _) (Below.refl _ _) (by omega) (by omega) HC3.out).mono ?_; rintro e2 w4 ⟨hb, rfl⟩; have HB4 := Lib.hid (below_to HB3.out hb HB3.out.size); clear hb))
     have hC := HK.out _ HB4.out
     refine behind_ok ⟨hC, ?_⟩
     cases T3 with
     | false =>
       have r3 := f3 rfl
       refine gm11 23 (.bool false) hC ?_
       refine gt11 24 [] (.bool false) hC ?_
       refine gt11 25 [] (.bool false) hC ?_
       refine gs 26 hC ?_
       refine gs 27 hC ?_
       refine gs 28 hC ?_
       refine gs 29 hC ?_
       refine gs 30 hC ?_
       refine gs 31 hC ?_
       refine gs 32 hC ?_
       refine gs 33 hC ?_
       refine gs 34 hC ?_
       refine gt11 35 [] (.bool false) hC ?_
       refine gt11 36 [] (.bool false) hC ?_
       refine goes_done (by kernel_rfl) ?_
       simp only [List.getElem_toArray, List.getElem_cons_succ, List.getElem_cons_zero, Act.put, List.setIfInBounds_toArray, List.set_cons_succ, List.set_cons_zero]
       go_wp2
       go_ret
       exact ⟨below_to HB0.out HB4.out HB0.out.size, by rw [HT1.out, HT2.out, HT3.out, HT4.out]; rfl⟩
     | true =>
       have r3 := t3 rfl
       refine gm11 23 (.bool true) hC ?_
       refine gt11 24 [] (.bool true) hC ?_
       refine gt11 25 [] (.bool true) hC ?_
       refine gm11 26 (.pointer (some ⟨w.heap.size + 1, 2, none⟩)) hC ?_
       refine gm11 27 (.slice YA yn yc) hC ?_
       refine gm11 28 (.pointer (some ⟨w.heap.size, 1, none⟩)) hC ?_
       refine gm11 29 (.slice B m d) hC ?_
       refine gm11 31 (.pointer (some ⟨w.heap.size + 1, 4, none⟩)) hC ?_
       refine gm11 32 (.agg #[.bool v1, .slice V1 p1 q1, .bool v2, .slice V2 p2 q2]) hC ?_
       refine gc 30 ?_
       clear hC
       simp only [List.getElem_toArray, List.getElem_cons_succ, List.getElem_cons_zero, Act.put, List.setIfInBounds_toArray, List.set_cons_succ, List.set_cons_zero]
       go_wp2_with (go_at_call 115; go_loud (with_reducible refine (product_len (HO.out _ HB4.out).y (HP.out _ HB4.out).b HYN.out (by rw [HYN.out]; omega)).mono ?_; rintro e2 w5 ⟨hb, s5, A5, n5, c5, t5, D5, m5, d5, rfl, hr⟩; have HB5 := Lib.hid (below_to HB4.out hb HB4.out.size); clear hb; have HR5 := Lib.hid hr; clear hr))
       have hC := HK.out _ HB5.out
       refine behind_ok ⟨hC, ?_⟩
       refine gc 33 ?_
       clear hC
       go_wp2_with (go_at_call 40; go_loud (with_reducible refine (cmpRH HR5.out (HO.out _ HB5.out).v (Below.refl _ _) (Below.refl _ _) (by omega) (by omega) HC4.out).mono ?_; rintro e2 w6 ⟨hb, rfl⟩; have HB6 := Lib.hid (below_to HB5.out hb HB5.out.size); clear hb))
       have hC := HK.out _ HB6.out
       refine behind_ok ⟨hC, ?_⟩
       cases T4 with
       | false =>
         have r4 := f4 rfl
         refine gm11 34 (.bool false) hC ?_
         refine gt11 35 [] (.bool false) hC ?_
         refine gt11 36 [] (.bool false) hC ?_
         refine goes_done (by kernel_rfl) ?_
         simp only [List.getElem_toArray, List.getElem_cons_succ, List.getElem_cons_zero, Act.put, List.setIfInBounds_toArray, List.set_cons_succ, List.set_cons_zero]
         go_wp2
         go_ret
         exact ⟨below_to HB0.out HB6.out HB0.out.size, by rw [HT1.out, HT2.out, HT3.out, HT4.out]; rfl⟩
       | true =>
         have r4 := t4 rfl
         refine gm11 34 (.bool true) hC ?_
         refine gt11 35 [] (.bool true) hC ?_
         refine gt11 36 [] (.bool true) hC ?_
         refine goes_done (by kernel_rfl) ?_
         simp only [List.getElem_toArray, List.getElem_cons_succ, List.getElem_cons_zero, Act.put, List.setIfInBounds_toArray, List.set_cons_succ, List.set_cons_zero]
         go_wp2
         go_ret
         exact ⟨below_to HB0.out HB6.out HB0.out.size, by rw [HT1.out, HT2.out, HT3.out, HT4.out]; rfl⟩
set_option maxRecDepth 100000 in
set_option maxHeartbeats 8000000 in
theorem isUnbounded_any {w : World} {A B C : Option Addr} {n c m d k e : Nat} {S : List SL} {M : List (List Rat)} {BL CL : List Rat} {XA YA RA : Option Addr} {xn xc yn yc rn rc : Nat} {X Y R : List Rat} {v1 v2 : Bool} {V1 V2 : Option Addr} {p1 q1 p2 q2 : Nat} {V : Rat} {kd : Int} (h : Ctx w A B C n c m d k e S M BL CL) (ho : Opt w XA YA RA xn xc yn yc rn rc X Y R v1 v2 V1 V2 p1 q1 p2 q2 V) :
 Calls Tryz.prog 83 #[.agg #[.slice A n c, .slice B m d, .slice C k e], .agg #[.int .i64 kd, .slice XA xn xc, .slice YA yn yc, .slice RA rn rc, .bool v1, .slice V1 p1 q1, .bool v2, .slice V2 p2 q2]] w fun e' w' => Below w.heap.size w w' ∧ e' = .returned (.bool (belS M CL X BL && (belS M CL R (zer BL.length) && decide (0 < dotQ CL R)))) := by
 have hbl := h.b.len
 rw [hbl]
 obtain ⟨T1, h1⟩ : ∃ T, belS M CL X BL = T := ⟨_, rfl⟩
 obtain ⟨T2, h2⟩ : ∃ T, belS M CL R (zer m) = T := ⟨_, rfl⟩
 obtain ⟨T3, h3⟩ : ∃ T, decide (0 < dotQ CL R) = T := ⟨_, rfl⟩
 obtain ⟨C3, hc3, t3, f3⟩ := sign_above h3
 have HT1 := Lib.hid h1
 have HT2 := Lib.hid h2
 have HT3 := Lib.hid h3
 have HC3 := Lib.hid hc3
 clear h1 h2 h3 hc3 hbl
 have HCT := Lib.hid h
 have HOT := Lib.hid ho
 have hn4 := h.n4
 have hk4 := h.k4
 have hm4 : m ≤ 4 := by have h1 := h.mn; omega
 clear h ho
 go_enter Tryz.func83, Tryz.ntmps83
 go_upto_region 1 with fail
 generalize hW : (World.alloc _ _) = wW
 have hb0 : Below w.heap.size w wW := by rw [← hW]; exact Below.alloc2 (Below.alloc2 (Below.refl _ _) _) _
 have hk0 : Bk wW w.heap.size 60 #[.slice A n c, .slice B m d, .slice C k e] := by rw [← hW]; exact Bk.alloc (Bk.alloc_ _ _ _) _
 have hk1 : Bk wW (w.heap.size + 1) 62 #[.int .i64 kd, .slice XA xn xc, .slice YA yn yc, .slice RA rn rc, .bool v1, .slice V1 p1 q1, .bool v2, .slice V2 p2 q2] := by rw [← hW]; exact Bk.at_ (by simp)
 have HB0 := Lib.hid hb0
 have HK : Hid (∀ w', Below wW.heap.size wW w' → (fun w' : World => w'.cell? ⟨w.heap.size, 0, none⟩ = some (.slice A n c) ∧ w'.cell? ⟨w.heap.size, 1, none⟩ = some (.slice B m d) ∧ w'.cell? ⟨w.heap.size, 2, none⟩ = some (.slice C k e) ∧ w'.cell? ⟨w.heap.size + 1, 0, none⟩ = some (.int .i64 kd) ∧ w'.cell? ⟨w.heap.size + 1, 1, none⟩ = some (.slice XA xn xc) ∧ w'.cell? ⟨w.heap.size + 1, 2, none⟩ = some (.slice YA yn yc) ∧ w'.cell? ⟨w.heap.size + 1, 3, none⟩ = some (.slice RA rn rc) ∧ w'.cell? ⟨w.heap.size + 1, 4, none⟩ = some (.bool v1) ∧ w'.cell? ⟨w.heap.size + 1, 5, none⟩ = some (.slice V1 p1 q1) ∧ w'.cell? ⟨w.heap.size + 1, 6, none⟩ = some (.bool v2) ∧ w'.cell? ⟨w.heap.size + 1, 7, none⟩ = some (.slice V2 p2 q2)) w') := Lib.hid fun w' hb => ⟨(hk0.below hb hk0.lt).trio.1, (hk0.below hb hk0.lt).trio.2.1, (hk0.below hb hk0.lt).trio.2.2, (hk1.below hb hk1.lt).eight⟩
 have HP : Hid (∀ w', Below wW.heap.size wW w' → Ctx w' A B C n c m d k e S M BL CL) := Lib.hid fun w' hb => (HCT.out.later hb0).later hb
 have HO : Hid (∀ w', Below wW.heap.size wW w' → Opt w' XA YA RA xn xc yn yc rn rc X Y R v1 v2 V1 V2 p1 q1 p2 q2 V) := Lib.hid fun w' hb => (HOT.out.later hb0).later hb
 clear hW hb0 hk0 hk1
 have HBd := Lib.hid (Below.drew (Below.refl wW.heap.size wW))
 have hC := HK.out _ HBd.out
 refine region_goes (n := 26) (fun w' : World => w'.cell? ⟨w.heap.size, 0, none⟩ = some (.slice A n c) ∧ w'.cell? ⟨w.heap.size, 1, none⟩ = some (.slice B m d) ∧ w'.cell? ⟨w.heap.size, 2, none⟩ = some (.slice C k e) ∧ w'.cell? ⟨w.heap.size + 1, 0, none⟩ = some (.int .i64 kd) ∧ w'.cell? ⟨w.heap.size + 1, 1, none⟩ = some (.slice XA xn xc) ∧ w'.cell? ⟨w.heap.size + 1, 2, none⟩ = some (.slice YA yn yc) ∧ w'.cell? ⟨w.heap.size + 1, 3, none⟩ = some (.slice RA rn rc) ∧ w'.cell? ⟨w.heap.size + 1, 4, none⟩ = some (.bool v1) ∧ w'.cell? ⟨w.heap.size + 1, 5, none⟩ = some (.slice V1 p1 q1) ∧ w'.cell? ⟨w.heap.size + 1, 6, none⟩ = some (.bool v2) ∧ w'.cell? ⟨w.heap.size + 1, 7, none⟩ = some (.slice V2 p2 q2)) [] (by kernel_rfl) rfl ?_
 refine gt11 0 [] (.agg #[.slice A n c, .slice B m d, .slice C k e]) hC ?_
 refine gt11 1 [] (.pointer (some ⟨w.heap.size + 1, 1, none⟩)) hC ?_
 refine gt11 2 [] (.slice XA xn xc) hC ?_
 refine gt11 3 [] (.pointer (some ⟨w.heap.size, 1, none⟩)) hC ?_
 refine gt11 4 [] (.slice B m d) hC ?_
 refine gc 5 ?_
 clear hC
 simp only [List.getElem_toArray, List.getElem_cons_succ, List.getElem_cons_zero, Act.put, List.setIfInBounds_toArray, List.set_cons_succ, List.set_cons_zero]
 go_wp2_with (go_at_call 113; go_loud (with_reducible refine (Ctx.bel (HP.out _ HBd.out) (HO.out _ HBd.out).x (HP.out _ HBd.out).b).mono ?_; rintro e2 w1 ⟨hb, rfl⟩; rw [HT1.out]; have HB1 := Lib.hid (below_to HBd.out hb HBd.out.size); clear hb))
 have hC := HK.out _ HB1.out
 refine behind_ok ⟨hC, ?_⟩
 cases T1 with
 | false =>
   refine gt11 6 [] (.bool false) hC ?_
   refine gs 7 hC ?_
   refine gs 8 hC ?_
   refine gs 9 hC ?_
   refine gs 10 hC ?_
   refine gs 11 hC ?_
   refine gs 12 hC ?_
   refine gs 13 hC ?_
   refine gs 14 hC ?_
   refine gt11 15 [] (.bool false) hC ?_
   refine gt11 16 [] (.bool false) hC ?_
   refine gs 17 hC ?_
   refine gs 18 hC ?_
   refine gs 19 hC ?_
   refine gs 20 hC ?_
   refine gs 21 hC ?_
   refine gs 22 hC ?_
   refine gs 23 hC ?_
   refine gt11 24 [] (.bool false) hC ?_
   refine gt11 25 [] (.bool false) hC ?_
   refine goes_done (by kernel_rfl) ?_
   simp only [List.getElem_toArray, List.getElem_cons_succ, List.getElem_cons_zero, Act.put, List.setIfInBounds_toArray, List.set_cons_succ, List.set_cons_zero]
   go_wp2
   go_ret
   exact ⟨below_to HB0.out HB1.out HB0.out.size, by rw [HT1.out, HT2.out, HT3.out]; rfl⟩
 | true =>
   refine gt11 6 [] (.bool true) hC ?_
   refine gm11 7 (.agg #[.slice A n c, .slice B m d, .slice C k e]) hC ?_
   refine gm11 8 (.pointer (some ⟨w.heap.size + 1, 3, none⟩)) hC ?_
   refine gm11 9 (.slice RA rn rc) hC ?_
   refine gm11 10 (.pointer (some ⟨w.heap.size, 1, none⟩)) hC ?_
   refine gm11 11 (.slice B m d) hC ?_
   refine gm11 12 (.int .i64 (m : Int)) hC ?_
   refine gc 13 ?_
   clear hC
   simp only [List.getElem_toArray, List.getElem_cons_succ, List.getElem_cons_zero, Act.put, List.setIfInBounds_toArray, List.set_cons_succ, List.set_cons_zero]
   go_wp2_with (go_at_call 117; go_loud (with_reducible refine (zeros_any m (by omega) _).mono ?_; rintro e2 w2 ⟨hb, zA, zc, rfl, hr⟩; have HB2 := Lib.hid (below_to HB1.out hb HB1.out.size); clear hb; have HZ2 := Lib.hid hr; clear hr))
   have hC := HK.out _ HB2.out
   refine behind_ok ⟨hC, ?_⟩
   refine gc 14 ?_
   clear hC
   go_wp2_with (go_at_call 113; go_loud (with_reducible refine (Ctx.bel (HP.out _ HB2.out) (HO.out _ HB2.out).r HZ2.out).mono ?_; rintro e2 w3 ⟨hb, rfl⟩; rw [HT2.out]; have HB3 := Lib.hid (below_to HB2.out hb HB2.out.size); clear hb))
   have hC := HK.out _ HB3.out
   refine behind_ok ⟨hC, ?_⟩
   cases T2 with
   | false =>
     refine gt11 15 [] (.bool false) hC ?_
     refine gt11 16 [] (.bool false) hC ?_
     refine gs 17 hC ?_
     refine gs 18 hC ?_
     refine gs 19 hC ?_
     refine gs 20 hC ?_
     refine gs 21 hC ?_
     refine gs 22 hC ?_
     refine gs 23 hC ?_
     refine gt11 24 [] (.bool false) hC ?_
     refine gt11 25 [] (.bool false) hC ?_
     refine goes_done (by kernel_rfl) ?_
     simp only [List.getElem_toArray, List.getElem_cons_succ, List.getElem_cons_zero, Act.put, List.setIfInBounds_toArray, List.set_cons_succ, List.set_cons_zero]
     go_wp2
     go_ret
     exact ⟨below_to HB0.out HB3.out HB0.out.size, by rw [HT1.out, HT2.out, HT3.out]; rfl⟩
   | true =>
     have HXN : Hid (k = rn) := Lib.hid (by have := bel_len HT2.out; rw [HOT.out.r.len, HCT.out.c.len] at this; exact this.symm)
     refine gt11 15 [] (.bool true) hC ?_
     refine gt11 16 [] (.bool true) hC ?_
     refine gm11 17 (.pointer (some ⟨w.heap.size, 2, none⟩)) hC ?_
     refine gm11 18 (.slice C k e) hC ?_
     refine gm11 19 (.pointer (some ⟨w.heap.size + 1, 3, none⟩)) hC ?_
     refine gm11 20 (.slice RA rn rc) hC ?_
     refine gc 21 ?_
     clear hC
     simp only [List.getElem_toArray, List.getElem_cons_succ, List.getElem_cons_zero, Act.put, List.setIfInBounds_toArray, List.set_cons_succ, List.set_cons_zero]
     go_wp2_with (go_at_call 115; go_loud (with_reducible refine (product_len (HP.out _ HB3.out).c (HO.out _ HB3.out).r HXN.out (HP.out _ HB3.out).k4).mono ?_; rintro e2 w4 ⟨hb, s4, A4, n4, c4, t4, D4, m4, d4, rfl, hr⟩; have HB4 := Lib.hid (below_to HB3.out hb HB3.out.size); clear hb; have HR4 := Lib.hid hr; clear hr))
     have hC := HK.out _ HB4.out
     refine behind_ok ⟨hC, ?_⟩
     refine gc 22 ?_
     clear hC
     go_wp2_with (go_at_call 81; go_loud (with_reducible refine (signRH HR4.out (Below.refl _ _) HC3.out).mono ?_; rintro e2 w5 ⟨hb, rfl⟩; have HB5 := Lib.hid (below_to HB4.out hb HB4.out.size); clear hb))
     have hC := HK.out _ HB5.out
     refine behind_ok ⟨hC, ?_⟩
     cases T3 with
     | false =>
       have r3 := f3 rfl
       refine gm11 23 (.bool false) hC ?_
       refine gt11 24 [] (.bool false) hC ?_
       refine gt11 25 [] (.bool false) hC ?_
       refine goes_done (by kernel_rfl) ?_
       simp only [List.getElem_toArray, List.getElem_cons_succ, List.getElem_cons_zero, Act.put, List.setIfInBounds_toArray, List.set_cons_succ, List.set_cons_zero]
       go_wp2
       go_ret
       exact ⟨below_to HB0.out HB5.out HB0.out.size, by rw [HT1.out, HT2.out, HT3.out]; rfl⟩
     | true =>
       have r3 := t3 rfl
       refine gm11 23 (.bool true) hC ?_
       refine gt11 24 [] (.bool true) hC ?_
       refine gt11 25 [] (.bool true) hC ?_
       refine goes_done (by kernel_rfl) ?_
       simp only [List.getElem_toArray, List.getElem_cons_succ, List.getElem_cons_zero, Act.put, List.setIfInBounds_toArray, List.set_cons_succ, List.set_cons_zero]
       go_wp2
       go_ret
       exact ⟨below_to HB0.out HB5.out HB0.out.size, by rw [HT1.out, HT2.out, HT3.out]; rfl⟩
set_option maxRecDepth 100000 in
set_option maxHeartbeats 8000000 in
theorem isImpossible_any {w : World} {A B C : Option Addr} {n c m d k e : Nat} {S : List SL} {M : List (List Rat)} {BL CL : List Rat} {YA : Option Addr} {yn yc : Nat} {Y : List Rat} (h : Ctx w A B C n c m d k e S M BL CL) (ho : Rts w YA yn yc Y 3) :
 Calls Tryz.prog 82 #[.agg #[.slice A n c, .slice B m d, .slice C k e], .slice YA yn yc] w fun e' w' => Below w.heap.size w w' ∧ e' = .returned (.bool (aboS M BL Y (zer CL.length) && decide (dotQ Y BL < 0))) := by
 have hcl := h.c.len
 rw [hcl]
 obtain ⟨T1, h1⟩ : ∃ T, aboS M BL Y (zer k) = T := ⟨_, rfl⟩
 obtain ⟨T2, h2⟩ : ∃ T, decide (dotQ Y BL < 0) = T := ⟨_, rfl⟩
 obtain ⟨C3, hc3, t3, f3⟩ := sign_below h2
 have HT1 := Lib.hid h1
 have HT2 := Lib.hid h2
 have HC3 := Lib.hid hc3
 clear h1 h2 hc3 hcl
 have HCT := Lib.hid h
 have HOT := Lib.hid ho
 have hn4 := h.n4
 have hk4 := h.k4
 have hm4 : m ≤ 4 := by have h1 := h.mn; omega
 clear h ho
 go_enter Tryz.func82, Tryz.ntmps82
 go_upto_region 1 with fail
 generalize hW : (World.alloc _ _) = wW
 have hb0 : Below w.heap.size w wW := by rw [← hW]; exact Below.alloc2 (Below.refl _ _) _
 have hk0 : Bk wW w.heap.size 60 #[.slice A n c, .slice B m d, .slice C k e] := by rw [← hW]; exact Bk.alloc_ _ _ _
 have HB0 := Lib.hid hb0
 have HK : Hid (∀ w', Below wW.heap.size wW w' → (fun w' : World => w'.cell? ⟨w.heap.size, 0, none⟩ = some (.slice A n c) ∧ w'.cell? ⟨w.heap.size, 1, none⟩ = some (.slice B m d) ∧ w'.cell? ⟨w.heap.size, 2, none⟩ = some (.slice C k e)) w') := Lib.hid fun w' hb => (hk0.below hb hk0.lt).trio
 have HP : Hid (∀ w', Below wW.heap.size wW w' → Ctx w' A B C n c m d k e S M BL CL) := Lib.hid fun w' hb => (HCT.out.later hb0).later hb
 have HY : Hid (∀ w', Below wW.heap.size wW w' → Rts w' YA yn yc Y 3) := Lib.hid fun w' hb => (HOT.out.later hb0).later hb
 clear hW hb0 hk0
 have HBd := Lib.hid (Below.drew (Below.refl wW.heap.size wW))
 have hC := HK.out _ HBd.out
 refine region_goes (n := 16) (fun w' : World => w'.cell? ⟨w.heap.size, 0, none⟩ = some (.slice A n c) ∧ w'.cell? ⟨w.heap.size, 1, none⟩ = some (.slice B m d) ∧ w'.cell? ⟨w.heap.size, 2, none⟩ = some (.slice C k e)) [] (by kernel_rfl) rfl ?_
 refine gt3 0 [] (.agg #[.slice A n c, .slice B m d, .slice C k e]) hC ?_
 refine gt3 1 [] (.slice YA yn yc) hC ?_
 refine gt3 2 [] (.pointer (some ⟨w.heap.size, 2, none⟩)) hC ?_
 refine gt3 3 [] (.slice C k e) hC ?_
 refine gt3 4 [] (.int .i64 (k : Int)) hC ?_
 refine gc 5 ?_
 clear hC
 simp only [List.getElem_toArray, List.getElem_cons_succ, List.getElem_cons_zero, Act.put, List.setIfInBounds_toArray, List.set_cons_succ, List.set_cons_zero]
 go_wp2_with (go_at_call 117; go_loud (with_reducible refine (zeros_any k (by omega) _).mono ?_; rintro e2 w1 ⟨hb, zA, zc, rfl, hr⟩; have HB1 := Lib.hid (below_to HBd.out hb HBd.out.size); clear hb; have HZ1 := Lib.hid hr; clear hr))
 have hC := HK.out _ HB1.out
 refine behind_ok ⟨hC, ?_⟩
 refine gc 6 ?_
 clear hC
 go_wp2_with (go_at_call 114; go_loud (with_reducible refine (Ctx.abo (HP.out _ HB1.out) (HY.out _ HB1.out) HZ1.out).mono ?_; rintro e2 w2 ⟨hb, rfl⟩; rw [HT1.out]; have HB2 := Lib.hid (below_to HB1.out hb HB1.out.size); clear hb))
 have hC := HK.out _ HB2.out
 refine behind_ok ⟨hC, ?_⟩
 cases T1 with
 | false =>
   refine gt3 7 [] (.bool false) hC ?_
   refine gs 8 hC ?_
   refine gs 9 hC ?_
   refine gs 10 hC ?_
   refine gs 11 hC ?_
   refine gs 12 hC ?_
   refine gs 13 hC ?_
   refine gt3 14 [] (.bool false) hC ?_
   refine gt3 15 [] (.bool false) hC ?_
   refine goes_done (by kernel_rfl) ?_
   simp only [List.getElem_toArray, List.getElem_cons_succ, List.getElem_cons_zero, Act.put, List.setIfInBounds_toArray, List.set_cons_succ, List.set_cons_zero]
   go_wp2
   go_ret
   exact ⟨below_to HB0.out HB2.out HB0.out.size, by rw [HT1.out, HT2.out]; rfl⟩
 | true =>
   have HYN : Hid (yn = m) := Lib.hid (by have := abo_len HT1.out; rwa [HOT.out.len, HCT.out.b.len] at this)
   refine gt3 7 [] (.bool true) hC ?_
   refine gm3 8 (.slice YA yn yc) hC ?_
   refine gm3 9 (.pointer (some ⟨w.heap.size, 1, none⟩)) hC ?_
   refine gm3 10 (.slice B m d) hC ?_
   refine gc 11 ?_
   clear hC
   simp only [List.getElem_toArray, List.getElem_cons_succ, List.getElem_cons_zero, Act.put, List.setIfInBounds_toArray, List.set_cons_succ, List.set_cons_zero]
   go_wp2_with (go_at_call 115; go_loud (with_reducible refine (product_len (HY.out _ HB2.out) (HP.out _ HB2.out).b HYN.out (by rw [HYN.out]; omega)).mono ?_; rintro e2 w3 ⟨hb, s3, A3, n3, c3, t3, D3, m3, d3, rfl, hr⟩; have HB3 := Lib.hid (below_to HB2.out hb HB2.out.size); clear hb; have HR3 := Lib.hid hr; clear hr))
   have hC := HK.out _ HB3.out
   refine behind_ok ⟨hC, ?_⟩
   refine gc 12 ?_
   clear hC
   go_wp2_with (go_at_call 81; go_loud (with_reducible refine (signRH HR3.out (Below.refl _ _) HC3.out).mono ?_; rintro e2 w4 ⟨hb, rfl⟩; have HB4 := Lib.hid (below_to HB3.out hb HB3.out.size); clear hb))
   have hC := HK.out _ HB4.out
   refine behind_ok ⟨hC, ?_⟩
   cases T2 with
   | false =>
     have r3 := f3 rfl
     refine gm3 13 (.bool false) hC ?_
     refine gt3 14 [] (.bool false) hC ?_
     refine gt3 15 [] (.bool false) hC ?_
     refine goes_done (by kernel_rfl) ?_
     simp only [List.getElem_toArray, List.getElem_cons_succ, List.getElem_cons_zero, Act.put, List.setIfInBounds_toArray, List.set_cons_succ, List.set_cons_zero]
     go_wp2
     go_ret
     exact ⟨below_to HB0.out HB4.out HB0.out.size, by rw [HT1.out, HT2.out]; rfl⟩
   | true =>
     have r3 := t3 rfl
     refine gm3 13 (.bool true) hC ?_
     refine gt3 14 [] (.bool true) hC ?_
     refine gt3 15 [] (.bool true) hC ?_
     refine goes_done (by kernel_rfl) ?_
     simp only [List.getElem_toArray, List.getElem_cons_succ, List.getElem_cons_zero, Act.put, List.setIfInBounds_toArray, List.set_cons_succ, List.set_cons_zero]
     go_wp2
     go_ret
     exact ⟨below_to HB0.out HB4.out HB0.out.size, by rw [HT1.out, HT2.out]; rfl⟩
end Go.Proofs.YthlfhfkfjefidaaGreat
