/- Certificates, the reference: Possible and CheckOptimum. -/
import Derived.Test.YthlfhfkfjefidaaGreatVecK
import Derived.Test.YthlfhfkfjefidaaGreatVec3
namespace Go.Proofs.YthlfhfkfjefidaaGreat
open Go Go.RowKit
theorem Ctx.mn4 {w : World} {A B C : Option Addr} {n c m d k e : Nat} {S : List SL} {M : List (List Rat)} {BL CL : List Rat} (h : Ctx w A B C n c m d k e S M BL CL) : m ≤ 4 := by have h1 := h.mn; have h2 := h.n4; omega
set_option maxRecDepth 100000 in
set_option maxHeartbeats 4000000 in
theorem possible_any {w : World} {A B C : Option Addr} {n c m d k e : Nat} {S : List SL} {M : List (List Rat)} {BL CL : List Rat} {xA lA : Option Addr} {xn xc lc : Nat} {X Lm : List Rat} (h : Ctx w A B C n c m d k e S M BL CL) (hx : Rts w xA xn xc X 3) (hl : Rts w lA m lc Lm 6) :
 Calls Tryz.prog 86 #[.agg #[.slice A n c, .slice B m d, .slice C k e], .slice xA xn xc, .slice lA m lc] w fun e' w' => Below w.heap.size w w' ∧ e' = .returned (.bool (belS M CL X Lm)) := by
 obtain ⟨E1, h1⟩ : ∃ T, nnL X = T := ⟨_, rfl⟩
 obtain ⟨E2, h2⟩ : ∃ T, leL (timesL M X) Lm = T := ⟨_, rfl⟩
 have HCL := Lib.hid h.c.len
 have HXL := Lib.hid hx.len
 have hk4 := h.k4
 have hn4 := h.n4
 have HCT := Lib.hid h
 have HX0 := Lib.hid hx
 have HL0 := Lib.hid hl
 have HE1 := Lib.hid h1
 have HE2 := Lib.hid h2
 clear h hx hl h1 h2
 obtain ⟨Z, hZ⟩ : ∃ Z, belS M CL X Lm = Z := ⟨_, rfl⟩
 rw [hZ]
 have HZ := Lib.hid hZ
 clear hZ
 go_enter Tryz.func86, Tryz.ntmps86
 go_upto_region 1 with fail
 generalize hW : (World.alloc _ _) = wW
 have hb0 : Below w.heap.size w wW := by rw [← hW]; exact below_alloc1 _ _
 have hk0 : Bk wW w.heap.size 60 #[.slice A n c, .slice B m d, .slice C k e] := by rw [← hW]; exact Bk.alloc_ _ _ _
 have HB0 := Lib.hid hb0
 have HK : Hid (∀ w', Below wW.heap.size wW w' → Bk w' w.heap.size 60 #[.slice A n c, .slice B m d, .slice C k e]) := Lib.hid fun w' hb => hk0.below hb hk0.lt
 have HP : Hid (∀ w', Below wW.heap.size wW w' → Ctx w' A B C n c m d k e S M BL CL) := Lib.hid fun w' hb => (HCT.out.later hb0).later hb
 have HX : Hid (∀ w', Below wW.heap.size wW w' → Rts w' xA xn xc X 3) := Lib.hid fun w' hb => (HX0.out.later hb0).later hb
 have HLM : Hid (∀ w', Below wW.heap.size wW w' → Rts w' lA m lc Lm 6) := Lib.hid fun w' hb => (HL0.out.later hb0).later hb
 have HBd := Lib.hid (Below.refl wW.heap.size wW)
 clear hW hb0 hk0
 obtain ⟨x0, x1, x2⟩ := (HK.out _ HBd.out).trio
 by_cases q : xn = k
 · have HQ := Lib.hid q
   have r1 : (xn : Int) = (k : Int) := by omega
   have HD1 : Hid ((decide (xn = k) && leL (zer k) X) = E1) := Lib.hid (by rw [decide_eq_true q, Bool.true_and, ← HE1.out, ← q, ← HXL.out]; exact leL_zeros X)
   have HD2 : Hid ((decide (m = n) && leL (timesL M X) Lm) = E2) := Lib.hid (by rw [decide_eq_true HCT.out.mn, Bool.true_and]; exact HE2.out)
   have HBE : Hid (belS M CL X Lm = (E1 && E2)) := Lib.hid (by
    unfold belS
    rw [decide_eq_true (by rw [HXL.out, HCL.out]; exact q), HE1.out, HE2.out, Bool.true_and])
   have hx4 : xn ≤ 4 := by omega
   clear q
   cases E1 with
   | false =>
     go_wp2_with (first
      | (go_at_call 87; go_loud (with_reducible refine (atLeast_any (HX.out _ HB1.out) HZ1.out (by omega) (by omega) (by omega)).mono ?_; rintro e2 w2 ⟨hb, rfl⟩; rw [HD1.out]; have HB2 := Lib.hid (below_to HB1.out hb HB1.out.size); clear hb))
      | (go_at_call 88; go_loud (with_reducible refine (rzeros_any k (by omega) _).mono ?_; rintro e2 w1 ⟨hb, zA, zc, rfl, hr⟩; have HB1 := Lib.hid (below_to HBd.out hb HBd.out.size); clear hb; have HZ1 := Lib.hid hr; clear hr; obtain ⟨x0, x1, x2⟩ := (HK.out _ HB1.out).trio)))
     go_ret
     exact ⟨below_to HB0.out HB2.out HB0.out.size, by rw [← HZ.out, HBE.out]; rfl⟩
   | true =>
     have HTW : Hid (∀ (i : Nat) (s : SL), S[i]? = some s → s.m = xn) := Lib.hid fun i s hs => (HCT.out.wd i s hs).trans HQ.out.symm
     cases E2 with
     | false =>
       go_wp2_with (first
        | (go_at_call 87; have hno := HZ3; go_loud (with_reducible refine (atLeast_any (HLM.out _ HB3.out) HZ3.out (by omega) (by omega) (by omega)).mono ?_; rintro e2 w4 ⟨hb, rfl⟩; rw [HD2.out]; have HB4 := Lib.hid (below_to HB3.out hb HB3.out.size); clear hb))
        | (go_at_call 118; go_loud (with_reducible refine (rtimes_any (HP.out _ HB2.out).mt (HP.out _ HB2.out).mq HTW.out (HX.out _ HB2.out) hx4 (by omega)).mono ?_; rintro e2 w3 ⟨hb, tA, tc, rfl, hr⟩; have HB3 := Lib.hid (below_to HB2.out hb HB2.out.size); clear hb; have HZ3 := Lib.hid hr; clear hr))
        | (go_at_call 87; go_loud (with_reducible refine (atLeast_any (HX.out _ HB1.out) HZ1.out (by omega) (by omega) (by omega)).mono ?_; rintro e2 w2 ⟨hb, rfl⟩; rw [HD1.out]; have HB2 := Lib.hid (below_to HB1.out hb HB1.out.size); clear hb; obtain ⟨x0, x1, x2⟩ := (HK.out _ HB2.out).trio))
        | (go_at_call 88; go_loud (with_reducible refine (rzeros_any k (by omega) _).mono ?_; rintro e2 w1 ⟨hb, zA, zc, rfl, hr⟩; have HB1 := Lib.hid (below_to HBd.out hb HBd.out.size); clear hb; have HZ1 := Lib.hid hr; clear hr; obtain ⟨x0, x1, x2⟩ := (HK.out _ HB1.out).trio)))
       go_ret
       exact ⟨below_to HB0.out HB4.out HB0.out.size, by rw [← HZ.out, HBE.out]; rfl⟩
     | true =>
       go_wp2_with (first
        | (go_at_call 87; have hno := HZ3; go_loud (with_reducible refine (atLeast_any (HLM.out _ HB3.out) HZ3.out (by omega) (by omega) (by omega)).mono ?_; rintro e2 w4 ⟨hb, rfl⟩; rw [HD2.out]; have HB4 := Lib.hid (below_to HB3.out hb HB3.out.size); clear hb))
        | (go_at_call 118; go_loud (with_reducible refine (rtimes_any (HP.out _ HB2.out).mt (HP.out _ HB2.out).mq HTW.out (HX.out _ HB2.out) hx4 (by omega)).mono ?_; rintro e2 w3 ⟨hb, tA, tc, rfl, hr⟩; have HB3 := Lib.hid (below_to HB2.out hb HB2.out.size); clear hb; have HZ3 := Lib.hid hr; clear hr))
        | (go_at_call 87; go_loud (with_reducible refine (atLeast_any (HX.out _ HB1.out) HZ1.out (by omega) (by omega) (by omega)).mono ?_; rintro e2 w2 ⟨hb, rfl⟩; rw [HD1.out]; have HB2 := Lib.hid (below_to HB1.out hb HB1.out.size); clear hb; obtain ⟨x0, x1, x2⟩ := (HK.out _ HB2.out).trio))
        | (go_at_call 88; go_loud (with_reducible refine (rzeros_any k (by omega) _).mono ?_; rintro e2 w1 ⟨hb, zA, zc, rfl, hr⟩; have HB1 := Lib.hid (below_to HBd.out hb HBd.out.size); clear hb; have HZ1 := Lib.hid hr; clear hr; obtain ⟨x0, x1, x2⟩ := (HK.out _ HB1.out).trio)))
       go_ret
       exact ⟨below_to HB0.out HB4.out HB0.out.size, by rw [← HZ.out, HBE.out]; rfl⟩
 · have r1 : ¬ ((xn : Int) = (k : Int)) := by omega
   have HBE : Hid (belS M CL X Lm = false) := Lib.hid (by
    unfold belS
    rw [decide_eq_false (by rw [HXL.out, HCL.out]; exact q), Bool.false_and])
   clear q
   go_wp2
   go_ret
   exact ⟨HB0.out, by rw [← HZ.out, HBE.out]; rfl⟩
theorem possible_n {w : World} {A B C : Option Addr} {n c m d k e : Nat} {S : List SL} {M : List (List Rat)} {BL CL : List Rat} {xA lA : Option Addr} {xn xc lc : Nat} {X Lm : List Rat} (h : Ctx w A B C n c m d k e S M BL CL) (hx : Rts w xA xn xc X 3) (hl : Rts w lA n lc Lm 6) :
 Calls Tryz.prog 86 #[.agg #[.slice A n c, .slice B m d, .slice C k e], .slice xA xn xc, .slice lA n lc] w fun e' w' => Below w.heap.size w w' ∧ e' = .returned (.bool (belS M CL X Lm)) := by
 have h1 := h.mn
 subst h1
 exact possible_any h hx hl
theorem rdot_len {w : World} {A B : Option Addr} {n1 n2 c d : Nat} {L M : List Rat} (h1 : Rts w A n1 c L 3) (h2 : Rts w B n2 d M 3) (hn : n1 = n2) (h4 : n1 ≤ 4) :
 Calls Tryz.prog 90 #[.slice A n1 c, .slice B n2 d] w (RatOut (dotQ L M) 34 w) := by
 subst hn
 refine (rdot_any h1 h2 h4).mono ?_
 rintro e w' ⟨hb, s1, A1, m1, c1, s2, A2, m2, c2, rfl, hr⟩
 exact ⟨hb, _, _, _, _, _, _, _, _, rfl, hr.wid (by omega)⟩
theorem rbefore_len {w : World} {A yA : Option Addr} {n yn c yc k : Nat} {S : List SL} {M : List (List Rat)} {Y : List Rat} (h : Mt w A n c S) (hq : MtQ w S M 3) (hw : ∀ (i : Nat) (s : SL), S[i]? = some s → s.m = k) (hy : Rts w yA yn yc Y 3) (hyn : yn = n) (hn : n ≤ 4) (hk : k ≤ 1000) :
 Calls Tryz.prog 89 #[.slice yA yn yc, .slice A n c, .int .i64 (k : Int)] w (ListOut (befL Y M k) k 34 w) := by
 subst hyn
 refine (rbefore_any h hq hw hy hn hk).mono ?_
 rintro e w' ⟨hb, A', c', rfl, hr⟩
 exact ⟨hb, A', c', rfl, hr.wide (by omega)⟩
theorem atz {Y : List Rat} {yn n : Nat} (hy : Y.length = yn) : (decide (yn = n) && leL (zer n) Y) = (decide (yn = n) && nnL Y) := by
 by_cases h : yn = n
 · subst h
   subst hy
   rw [show leL (zer Y.length) Y = nnL Y from leL_zeros Y]
 · rw [decide_eq_false h, Bool.false_and, Bool.false_and]
theorem and_left {a b : Bool} (h : (a && b) = true) : a = true := by cases a <;> simp_all
section
variable {M : List (List Rat)} {BL CL X Y R : List Rat} {V : Rat} {xn yn rn m n k : Nat}
theorem cert0 (hr : R.length = rn) (hy : Y.length = yn) (hb : BL.length = m) (hc : CL.length = k) (hm : m = n) : certS M BL CL 0 X Y R V = (decide (rn = 0) && (belS M CL X BL && ((decide (yn = n) && nnL Y) && (leL CL (befL Y M k) && (decide (dotQ CL X = V) && decide (dotQ Y BL = V)))))) := by
 unfold certS aboS
 rw [if_pos rfl, hr, hy, hb, hc, hm]
 simp only [Bool.and_assoc]
theorem cert1 (hx : X.length = xn) (hr : R.length = rn) (hy : Y.length = yn) (hb : BL.length = m) (hc : CL.length = k) (hm : m = n) : certS M BL CL 1 X Y R V = (decide (xn + rn = 0) && (decide (V = 0) && ((decide (yn = n) && nnL Y) && (leL (zer k) (befL Y M k) && decide (dotQ Y BL < 0))))) := by
 unfold certS aboS
 rw [if_neg (by omega), if_pos rfl, hr, hx, hy, hb, hc, hm, zer_len, show decide (xn + rn = 0) = (decide (xn = 0) && decide (rn = 0)) by
  rw [← Bool.decide_and]
  exact decide_eq_decide.2 (by omega)]
 simp only [Bool.and_assoc]
theorem cert2 (hy : Y.length = yn) (hb : BL.length = m) : certS M BL CL 2 X Y R V = (decide (yn = 0) && (decide (V = 0) && (belS M CL X BL && (belS M CL R (zer m) && decide (0 < dotQ CL R))))) := by
 unfold certS
 rw [if_neg (by omega), if_neg (by omega), if_pos rfl, hy, hb]
end
theorem atLeast_same {w : World} {A B : Option Addr} {n c d K1 K2 : Nat} {X Y : List Rat} (h1 : Rts w A n c X K1) (h2 : Rts w B n d Y K2) (k1 : 0 < K1) (k2 : 0 < K2) (hk : K1 + K2 ≤ 44) :
 Calls Tryz.prog 87 #[.slice A n c, .slice B n d] w fun e w' => Below w.heap.size w w' ∧ e = .returned (.bool (leL Y X)) := by
 have h := atLeast_any h1 h2 k1 k2 hk
 rwa [decide_eq_true rfl, Bool.true_and] at h
end Go.Proofs.YthlfhfkfjefidaaGreat
