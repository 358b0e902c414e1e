/- The law of certificates. -/
import Derived.Test.YthlfhfkfjefidaaGreatVecO
import Derived.Test.YthlfhfkfjefidaaGreatVecJ
import Derived.Test.YthlfhfkfjefidaaGreatVecL
import Derived.Test.YthlfhfkfjefidaaGreatVecN
import Derived.Test.YthlfhfkfjefidaaGreatVec4
import Derived.Test.YthlfhfkfjefidaaGreatAwaG
namespace Go.Proofs.YthlfhfkfjefidaaGreat
open Go Go.RowKit
theorem pro_facts {l : List Nat} {b c : Nat} (h : proS l b c = 0) : matS l = 0 ∧ b = l.length ∧ (0 < l.length → c = l.headD 0) := by
 unfold proS at h
 by_cases h1 : matS l ≠ 0
 · rw [if_pos h1] at h
   exact absurd h h1
 · rw [if_neg h1] at h
   by_cases h2 : b ≠ l.length ∨ (0 < l.length ∧ c ≠ l.headD 0)
   · rw [if_pos h2] at h
     cases h
   · exact ⟨by omega, by omega, fun h3 => by omega⟩
theorem mat_facts {l : List Nat} (h : matS l = 0) : ∀ x ∈ l, x = l.headD 0 := fun x hx => by
 unfold matS at h
 by_cases h1 : l.any (fun x => x != l.headD 0) = true
 · rw [if_pos h1] at h
   cases h
 · rw [List.any_eq_true] at h1
   by_cases h2 : x = l.headD 0
   · exact h2
   · exact absurd ⟨x, hx, by simpa using h2⟩ h1
theorem ctx_of {w : World} {A B C : Option Addr} {n c m d k e : Nat} {S : List SL} {Ms : List (List RR)} {Lb Lc : List RR} (h : Mt w A n c S) (hm : MtR w S Ms) (hb : RRs w B m d Lb) (hc : RRs w C k e Lc) (hf : fineProg n m k S Ms Lb Lc) (h0 : proS (lens S) m k = 0) :
 Ctx w A B C n c m d k e S (Ms.map fun l => l.map RR.q) (Lb.map RR.q) (Lc.map RR.q) := by
 obtain ⟨f1, -, -, f4, f5, f6⟩ := hf
 obtain ⟨g1, g2, g3⟩ := pro_facts h0
 have hl : (lens S).length = n := by unfold lens; rw [List.length_map]; exact h.len
 have hn := f6 h0
 refine ⟨h, ⟨by rw [List.length_map]; exact hm.len, fun i s r h1 h2 => ?_⟩, fun i s hs => ?_, hb.rts (f4 (by omega)), hc.rts (f5 (by omega)), by omega, hn.1, by omega⟩
 · rw [List.getElem?_map] at h2
   obtain ⟨L, h3, rfl⟩ := Option.map_eq_some_iff.1 h2
   exact (hm.at_ i s L h1 h3).rts (f1.2 i s L h1 h3).2
 · have hi : i < n := by rw [← h.len]; exact (List.getElem?_eq_some_iff.1 hs).1
   rw [g3 (by omega)]
   exact mat_facts g1 s.m (List.mem_map.2 ⟨s, List.mem_of_getElem? hs, rfl⟩)
theorem rcheck_any {w : World} {A B C : Option Addr} {n c m d k e : Nat} {S : List SL} {M : List (List Rat)} {BL CL : List Rat} {XA YA RA : Option Addr} {xn xc yn yc rn rc : Nat} {X Y R : List Rat} {v1 v2 : Bool} {V1 V2 : Option Addr} {p1 q1 p2 q2 : Nat} {V : Rat} {kd : Int} (hx8 : xn ≤ 8) (hr8 : rn ≤ 8) (h : Ctx w A B C n c m d k e S M BL CL) (ho : Opt w XA YA RA xn xc yn yc rn rc X Y R v1 v2 V1 V2 p1 q1 p2 q2 V) : Calls Tryz.prog 47 #[.agg #[.slice A n c, .slice B m d, .slice C k e], .agg #[.int .i64 kd, .slice XA xn xc, .slice YA yn yc, .slice RA rn rc, .bool v1, .slice V1 p1 q1, .bool v2, .slice V2 p2 q2]] w fun e' w' => Below w.heap.size w w' ∧ e' = .returned (.int .i64 (if certS M BL CL kd X Y R V then (0 : Int) else 25)) := by
 by_cases k0 : kd = 0
 · subst k0
   exact rcheck0 h ho
 · by_cases k1 : kd = 1
   · subst k1
     exact rcheck1 hx8 hr8 h ho
   · by_cases k2 : kd = 2
     · subst k2
       exact rcheck2 h ho
     · exact rcheck3 k0 k1 k2 h ho
theorem RRs.one {w : World} {g : Nat} {r : RR} (hb : Bk w g 41 #[.bool r.s1, .slice r.A1 r.n1 r.c1, .bool r.s2, .slice r.A2 r.n2 r.c2]) (h1 : Lim w w.heap.size r.A1 r.n1 r.c1 r.l1) (h2 : Lim w w.heap.size r.A2 r.n2 r.c2 r.l2) : RRs w (some ⟨g, 0, none⟩) 1 1 [r] := by
 refine ⟨rfl, Nat.le_refl _, by omega, fun k x hk => ?_⟩
 have hk0 : k < 1 := (List.getElem?_eq_some_iff.1 hk).1
 obtain rfl : k = 0 := by omega
 obtain rfl : r = x := by simpa using hk
 obtain ⟨y0, y1, y2, y3⟩ := hb.four4
 exact ⟨g, 0, rfl, hb.lt, y0, y1, y2, y3, h1, h2⟩
theorem ratH_one {w : World} {r : RR} (h1 : Lim w w.heap.size r.A1 r.n1 r.c1 r.l1) (h2 : Lim w w.heap.size r.A2 r.n2 r.c2 r.l2) (hs : r.short = true) : RatH w r.s1 r.A1 r.n1 r.c1 r.s2 r.A2 r.n2 r.c2 r.q 3 false := by
 unfold RR.short at hs
 simp only [Bool.and_eq_true, decide_eq_true_eq] at hs
 exact ⟨⟨r.l1, r.l2, fun w' hb => h1.below hb (Nat.le_refl _) hb.size, fun w' hb => h2.below hb (Nat.le_refl _) hb.size, rfl, fun h => by cases h⟩, hs.1, hs.2⟩
set_option maxRecDepth 100000 in
set_option maxHeartbeats 16000000 in
theorem lawCert_any {w : World} {A B C XA YA RA : Option Addr} {n c m d k e xn xc yn yc rn rc : Nat} {S : List SL} {Ms : List (List RR)} {Lb Lc Lx Ly Lr : List RR} {rv : RR} {kd : Int} (h : Mt w A n c S) (hm : MtR w S Ms) (hrb : RRs w B m d Lb) (hrc : RRs w C k e Lc) (hrx : RRs w XA xn xc Lx) (hry : RRs w YA yn yc Ly) (hrr : RRs w RA rn rc Lr) (hv1 : Lim w w.heap.size rv.A1 rv.n1 rv.c1 rv.l1) (hv2 : Lim w w.heap.size rv.A2 rv.n2 rv.c2 rv.l2) :
 Calls Tryz.prog 6 #[.agg #[.slice A n c, .slice B m d, .slice C k e], .agg #[.int .i64 kd, .slice XA xn xc, .slice YA yn yc, .slice RA rn rc, .bool rv.s1, .slice rv.A1 rv.n1 rv.c1, .bool rv.s2, .slice rv.A2 rv.n2 rv.c2]] w fun e' w' => Below w.heap.size w w' ∧ e' = .returned (.bool true) := by
 obtain ⟨T, hT, hLT⟩ := light_ex A B C n c m d k e S Ms Lb Lc
 have HLT := Lib.hid hLT
 have HT := Lib.hid hT
 obtain ⟨E, hE⟩ : ∃ E, proS (lens S) m k = E := ⟨_, rfl⟩
 obtain ⟨EX, hEX⟩ : ∃ E, Lx.all RR.short = E := ⟨_, rfl⟩
 obtain ⟨EY, hEY⟩ : ∃ E, Ly.all RR.short = E := ⟨_, rfl⟩
 obtain ⟨ER, hER⟩ : ∃ E, Lr.all RR.short = E := ⟨_, rfl⟩
 obtain ⟨EV, hEV⟩ : ∃ E, [rv].all RR.short = E := ⟨_, rfl⟩
 have HE := Lib.hid hE
 have HEX := Lib.hid hEX
 have HEY := Lib.hid hEY
 have HER := Lib.hid hER
 have HEV := Lib.hid hEV
 have H1 := Lib.hid (And.intro h (And.intro hm (And.intro hrb hrc)))
 have H2 := Lib.hid (And.intro hrx (And.intro hry (And.intro hrr (And.intro hv1 hv2))))
 clear hLT hT hE hEX hEY hER hEV h hm hrb hrc hrx hry hrr hv1 hv2
 go_enter Tryz.func6, Tryz.ntmps6
 go_upto_region 1 with fail
 generalize hW : (World.alloc _ _) = wW
 have hb0 : Below w.heap.size w wW := by rw [← hW]; exact Below.alloc2 (Below.alloc2 (Below.refl _ _) _) _
 have hk0 : Bk wW w.heap.size 60 #[.slice A n c, .slice B m d, .slice C k e] := by rw [← hW]; exact Bk.alloc (Bk.alloc_ _ _ _) _
 have hk1 : Bk wW (w.heap.size + 1) 62 #[.int .i64 kd, .slice XA xn xc, .slice YA yn yc, .slice RA rn rc, .bool rv.s1, .slice rv.A1 rv.n1 rv.c1, .bool rv.s2, .slice rv.A2 rv.n2 rv.c2] := by rw [← hW]; exact Bk.at_ (by simp)
 have HB0 := Lib.hid hb0
 have HK := Lib.hid (fun w' (hb : Below wW.heap.size wW w') => And.intro (hk0.below hb hk0.lt).trio (hk1.below hb hk1.lt).eight)
 have HMT := Lib.hid (fun w' (hb : Below wW.heap.size wW w') => (H1.out.1.later hb0).later hb)
 have HMR := Lib.hid (fun w' (hb : Below wW.heap.size wW w') => (H1.out.2.1.below hb0).below hb)
 have HRB := Lib.hid (fun w' (hb : Below wW.heap.size wW w') => (H1.out.2.2.1.below hb0).below hb)
 have HRC := Lib.hid (fun w' (hb : Below wW.heap.size wW w') => (H1.out.2.2.2.below hb0).below hb)
 have HRX := Lib.hid (fun w' (hb : Below wW.heap.size wW w') => (H2.out.1.below hb0).below hb)
 have HRY := Lib.hid (fun w' (hb : Below wW.heap.size wW w') => (H2.out.2.1.below hb0).below hb)
 have HRR := Lib.hid (fun w' (hb : Below wW.heap.size wW w') => (H2.out.2.2.1.below hb0).below hb)
 have HV1 := Lib.hid (fun w' (hb : Below wW.heap.size wW w') => (H2.out.2.2.2.1.below hb0 (Nat.le_refl _) hb0.size).below hb (Nat.le_refl _) hb.size)
 have HV2 := Lib.hid (fun w' (hb : Below wW.heap.size wW w') => (H2.out.2.2.2.2.below hb0 (Nat.le_refl _) hb0.size).below hb (Nat.le_refl _) hb.size)
 have HBd := Lib.hid (Below.refl wW.heap.size wW)
 clear hW hb0 hk0 hk1 H1 H2
 obtain ⟨⟨x0, x1, x2⟩, ⟨x3, x4, x5, x6, x7, x8, x9, x10⟩⟩ := HK.out _ HBd.out
 have hD : T = false ∨ (T = true ∧ (8 : Int) < (xn : Int)) ∨ (T = true ∧ ¬ (8 : Int) < (xn : Int) ∧ (8 : Int) < (yn : Int)) ∨ (T = true ∧ ¬ (8 : Int) < (xn : Int) ∧ ¬ (8 : Int) < (yn : Int) ∧ (8 : Int) < (rn : Int)) ∨ (T = true ∧ ¬ (8 : Int) < (xn : Int) ∧ ¬ (8 : Int) < (yn : Int) ∧ ¬ (8 : Int) < (rn : Int) ∧ (EX = false ∨ (EX = true ∧ EY = false) ∨ (EX = true ∧ EY = true ∧ ER = false) ∨ (EX = true ∧ EY = true ∧ ER = true ∧ EV = false) ∨ (EX = true ∧ EY = true ∧ ER = true ∧ EV = true))) := by
  cases T <;> cases EX <;> cases EY <;> cases ER <;> cases EV <;> simp <;> omega
 rcases hD with rfl | ⟨rfl, r1⟩ | ⟨rfl, r1, r2⟩ | ⟨rfl, r1, r2, r3⟩ | ⟨rfl, r1, r2, r3, rfl | ⟨rfl, rfl⟩ | ⟨rfl, rfl, rfl⟩ | ⟨rfl, rfl, rfl, rfl⟩ | ⟨rfl, rfl, rfl, rfl⟩⟩
 iterate 8
  · go_wp2_with (first | (go_at_call 44; go_loud (with_reducible refine (HLT.out _ (HMT.out _ HBd.out) (HMR.out _ HBd.out) (HRB.out _ HBd.out) (HRC.out _ HBd.out)).mono ?_; rintro e1 w1 ⟨hb, rfl⟩; have HB1 := Lib.hid (below_to HBd.out hb HBd.out.size); clear hb; obtain ⟨⟨x0, x1, x2⟩, ⟨x3, x4, x5, x6, x7, x8, x9, x10⟩⟩ := HK.out _ HB1.out)) | (go_at_call 24; with_reducible refine (brief_any (HRX.out _ HB1.out) (by omega)).mono ?_; rintro e1 w2 ⟨rfl, rfl⟩; rw [HEX.out]) | (go_at_call 24; with_reducible refine (brief_any (HRY.out _ HB1.out) (by omega)).mono ?_; rintro e1 w2 ⟨rfl, rfl⟩; rw [HEY.out]) | (go_at_call 24; with_reducible refine (brief_any (HRR.out _ HB1.out) (by omega)).mono ?_; rintro e1 w2 ⟨rfl, rfl⟩; rw [HER.out]) | (go_at_call 24; go_loud (refine (brief_any (L := [rv]) (RRs.one (Bk.alloc_ _ _ _) ((HV1.out _ HB1.out).below (below_alloc1 _ _) (Nat.le_refl _) (below_alloc1 _ _).size) ((HV2.out _ HB1.out).below (below_alloc1 _ _) (Nat.le_refl _) (below_alloc1 _ _).size)) (by omega)).mono ?_; rintro e1 w5 ⟨hw5, rfl⟩; rw [HEV.out]; have HB5 : Hid (Below wW.heap.size wW w5) := Lib.hid (by rw [← hw5]; exact Below.alloc HB1.out HB1.out.size _); clear hw5; obtain ⟨⟨x0, x1, x2⟩, ⟨x3, x4, x5, x6, x7, x8, x9, x10⟩⟩ := HK.out _ HB5.out)) | (go_at_call 8; with_reducible refine (awake_true _).mono ?_; rintro e1 w9 ⟨hb9, rfl⟩))
    go_ret
    first
     | exact ⟨below_to HB0.out (below_to HB5.out hb9 HB5.out.size) HB0.out.size, rfl⟩
     | exact ⟨below_to HB0.out (below_to HB1.out hb9 HB1.out.size) HB0.out.size, rfl⟩
 · by_cases z0 : E = 0
   · subst z0
     have HP : Hid (∀ w', Below wW.heap.size wW w' → Ctx w' A B C n c m d k e S (Ms.map fun l => l.map RR.q) (Lb.map RR.q) (Lc.map RR.q)) := Lib.hid fun w' hb => ctx_of (HMT.out _ hb) (HMR.out _ hb) (HRB.out _ hb) (HRC.out _ hb) (HT.out rfl) HE.out
     have HO : Hid (∀ w', Below wW.heap.size wW w' → Opt w' XA YA RA xn xc yn yc rn rc (Lx.map RR.q) (Ly.map RR.q) (Lr.map RR.q) rv.s1 rv.s2 rv.A1 rv.A2 rv.n1 rv.c1 rv.n2 rv.c2 rv.q) := Lib.hid fun w' hb => ⟨(HRX.out _ hb).rts HEX.out, (HRY.out _ hb).rts HEY.out, (HRR.out _ hb).rts HER.out, ratH_one (HV1.out _ hb) (HV2.out _ hb) (by have h5 := HEV.out; simpa using h5)⟩
     obtain ⟨Z, hZ⟩ : ∃ Z : Int, (if certS (Ms.map fun l => l.map RR.q) (Lb.map RR.q) (Lc.map RR.q) kd (Lx.map RR.q) (Ly.map RR.q) (Lr.map RR.q) rv.q then (0 : Int) else 25) = Z := ⟨_, rfl⟩
     have HZ := Lib.hid hZ
     clear hZ
     have hx8 : xn ≤ 8 := by omega
     have hr8 : rn ≤ 8 := by omega
     go_wp2_with (first
      | (go_at_call 44; go_loud (with_reducible refine (HLT.out _ (HMT.out _ HBd.out) (HMR.out _ HBd.out) (HRB.out _ HBd.out) (HRC.out _ HBd.out)).mono ?_; rintro e1 w1 ⟨hb, rfl⟩; have HB1 := Lib.hid (below_to HBd.out hb HBd.out.size); clear hb; obtain ⟨⟨x0, x1, x2⟩, ⟨x3, x4, x5, x6, x7, x8, x9, x10⟩⟩ := HK.out _ HB1.out)) | (go_at_call 24; with_reducible refine (brief_any (HRX.out _ HB1.out) (by omega)).mono ?_; rintro e1 w2 ⟨rfl, rfl⟩; rw [HEX.out]) | (go_at_call 24; with_reducible refine (brief_any (HRY.out _ HB1.out) (by omega)).mono ?_; rintro e1 w2 ⟨rfl, rfl⟩; rw [HEY.out]) | (go_at_call 24; with_reducible refine (brief_any (HRR.out _ HB1.out) (by omega)).mono ?_; rintro e1 w2 ⟨rfl, rfl⟩; rw [HER.out]) | (go_at_call 24; go_loud (refine (brief_any (L := [rv]) (RRs.one (Bk.alloc_ _ _ _) ((HV1.out _ HB1.out).below (below_alloc1 _ _) (Nat.le_refl _) (below_alloc1 _ _).size) ((HV2.out _ HB1.out).below (below_alloc1 _ _) (Nat.le_refl _) (below_alloc1 _ _).size)) (by omega)).mono ?_; rintro e1 w5 ⟨hw5, rfl⟩; rw [HEV.out]; have HB5 : Hid (Below wW.heap.size wW w5) := Lib.hid (by rw [← hw5]; exact Below.alloc HB1.out HB1.out.size _); clear hw5; obtain ⟨⟨x0, x1, x2⟩, ⟨x3, x4, x5, x6, x7, x8, x9, x10⟩⟩ := HK.out _ HB5.out)) | (go_at_call 8; with_reducible refine (awake_true _).mono ?_; rintro e1 w9 ⟨hb9, rfl⟩)
      | (go_at_call 45; go_loud (with_reducible refine (checkOpt_any (HP.out _ HB5.out) (HO.out _ HB5.out) HE.out).mono ?_; rintro e1 w6 ⟨hb, rfl⟩; rw [HZ.out]; have HB6 := Lib.hid (below_to HB5.out hb HB5.out.size); clear hb; obtain ⟨⟨x0, x1, x2⟩, ⟨x3, x4, x5, x6, x7, x8, x9, x10⟩⟩ := HK.out _ HB6.out))
      | (go_at_call 46; go_loud (with_reducible refine (checkProgram_any (HMT.out _ HB6.out)).mono ?_; rintro e1 w7 ⟨hb, rfl⟩; rw [HE.out]; have HB7 := Lib.hid (below_to HB6.out hb HB6.out.size); clear hb; obtain ⟨⟨x0, x1, x2⟩, ⟨x3, x4, x5, x6, x7, x8, x9, x10⟩⟩ := HK.out _ HB7.out))
      | (go_at_call 47; go_loud (with_reducible refine (rcheck_any hx8 hr8 (HP.out _ HB7.out) (HO.out _ HB7.out)).mono ?_; rintro e1 w8 ⟨hb, rfl⟩; rw [HZ.out]; have HB8 := Lib.hid (below_to HB7.out hb HB7.out.size); clear hb; obtain ⟨⟨x0, x1, x2⟩, ⟨x3, x4, x5, x6, x7, x8, x9, x10⟩⟩ := HK.out _ HB8.out)))
     go_ret
     exact ⟨below_to HB0.out (below_to HB8.out hb9 HB8.out.size) HB0.out.size, rfl⟩
   · go_wp2_with (first
      | (go_at_call 44; go_loud (with_reducible refine (HLT.out _ (HMT.out _ HBd.out) (HMR.out _ HBd.out) (HRB.out _ HBd.out) (HRC.out _ HBd.out)).mono ?_; rintro e1 w1 ⟨hb, rfl⟩; have HB1 := Lib.hid (below_to HBd.out hb HBd.out.size); clear hb; obtain ⟨⟨x0, x1, x2⟩, ⟨x3, x4, x5, x6, x7, x8, x9, x10⟩⟩ := HK.out _ HB1.out)) | (go_at_call 24; with_reducible refine (brief_any (HRX.out _ HB1.out) (by omega)).mono ?_; rintro e1 w2 ⟨rfl, rfl⟩; rw [HEX.out]) | (go_at_call 24; with_reducible refine (brief_any (HRY.out _ HB1.out) (by omega)).mono ?_; rintro e1 w2 ⟨rfl, rfl⟩; rw [HEY.out]) | (go_at_call 24; with_reducible refine (brief_any (HRR.out _ HB1.out) (by omega)).mono ?_; rintro e1 w2 ⟨rfl, rfl⟩; rw [HER.out]) | (go_at_call 24; go_loud (refine (brief_any (L := [rv]) (RRs.one (Bk.alloc_ _ _ _) ((HV1.out _ HB1.out).below (below_alloc1 _ _) (Nat.le_refl _) (below_alloc1 _ _).size) ((HV2.out _ HB1.out).below (below_alloc1 _ _) (Nat.le_refl _) (below_alloc1 _ _).size)) (by omega)).mono ?_; rintro e1 w5 ⟨hw5, rfl⟩; rw [HEV.out]; have HB5 : Hid (Below wW.heap.size wW w5) := Lib.hid (by rw [← hw5]; exact Below.alloc HB1.out HB1.out.size _); clear hw5; obtain ⟨⟨x0, x1, x2⟩, ⟨x3, x4, x5, x6, x7, x8, x9, x10⟩⟩ := HK.out _ HB5.out)) | (go_at_call 8; with_reducible refine (awake_true _).mono ?_; rintro e1 w9 ⟨hb9, rfl⟩)
      | (go_at_call 45; go_loud (with_reducible refine (checkOpt_bad (HMT.out _ HB5.out) HE.out z0).mono ?_; rintro e1 w6 ⟨hb, rfl⟩; have HB6 := Lib.hid (below_to HB5.out hb HB5.out.size); clear hb; obtain ⟨⟨x0, x1, x2⟩, ⟨x3, x4, x5, x6, x7, x8, x9, x10⟩⟩ := HK.out _ HB6.out))
      | (go_at_call 46; go_loud (with_reducible refine (checkProgram_any (HMT.out _ HB6.out)).mono ?_; rintro e1 w7 ⟨hb, rfl⟩; rw [HE.out]; have HB7 := Lib.hid (below_to HB6.out hb HB6.out.size); clear hb; obtain ⟨⟨x0, x1, x2⟩, ⟨x3, x4, x5, x6, x7, x8, x9, x10⟩⟩ := HK.out _ HB7.out)))
     go_ret
     exact ⟨below_to HB0.out (below_to HB7.out hb9 HB7.out.size) HB0.out.size, rfl⟩
end Go.Proofs.YthlfhfkfjefidaaGreat
