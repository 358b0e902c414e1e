/- Several texts in one. -/
import Derived.Test.YthlfhfkfjefidaaGreatVec1
import Derived.Test.YthlfhfkfjefidaaGreatOpenG1
import Derived.Deep.Strs
/- Which programs the law looks at: Small and Light. -/
namespace Go.Proofs.YthlfhfkfjefidaaGreat
open Go Go.RowKit
structure MtR (w : World) (S : List SL) (Ms : List (List RR)) : Prop where
 len : Ms.length = S.length
 at_ : ∀ (k : Nat) (s : SL) (L : List RR), S[k]? = some s → Ms[k]? = some L → RRs w s.B s.m s.e L
theorem MtR.below {w w' : World} {S : List SL} {Ms : List (List RR)} (h : MtR w S Ms) (hb : Below w.heap.size w w') : MtR w' S Ms := ⟨h.len, fun k s L h1 h2 => (h.at_ k s L h1 h2).below hb⟩
def fine (n : Nat) : Prop := ¬ (5 < n ∧ n ≤ 60) ∧ ¬ 65 < n
def fineRow (s : SL) (L : List RR) : Prop := fine s.m ∧ L.all RR.short = true
def fineMat (n : Nat) (S : List SL) (Ms : List (List RR)) : Prop := fine n ∧ ∀ (k : Nat) (s : SL) (L : List RR), S[k]? = some s → Ms[k]? = some L → fineRow s L
theorem known (P : Prop) : ∃ b : Bool, (P → b = true) ∧ (¬ P → b = false) := by
 by_cases h : P
 · exact ⟨true, fun _ => rfl, fun hn => absurd h hn⟩
 · exact ⟨false, fun hp => absurd hp h, fun _ => rfl⟩
set_option maxRecDepth 100000 in
set_option maxHeartbeats 4000000 in
theorem small_ex (A : Option Addr) (n c : Nat) (S : List SL) (Ms : List (List RR)) : ∃ b : Bool, (b = true → fineMat n S Ms) ∧ (b = false → ¬ fineMat n S Ms) ∧ ∀ w, Mt w A n c S → MtR w S Ms → Calls Tryz.prog 78 #[.slice A n c] w fun e w' => w = w' ∧ e = .returned (.bool b) := by
 obtain ⟨b, hb1, hb0⟩ := known (fineMat n S Ms)
 refine ⟨b, fun hb => ?_, fun hb hp => (by rw [hb1 hp] at hb; cases hb), fun w h hm => ?_⟩
 · by_cases hp : fineMat n S Ms
   · exact hp
   · rw [hb0 hp] at hb
     cases hb
 have hcap := h.cap
 have hmax := h.max
 have HL := Lib.hid h.len
 have H := Lib.hid h
 have HM := Lib.hid hm
 clear h hm
 by_cases p1 : 5 < n
 case' pos =>
  have r1 : (5 : Int) < (n : Int) := by omega
  by_cases p2 : n ≤ 60
  · have r2 : (n : Int) ≤ 60 := by omega
    have HN : Hid (b = false) := Lib.hid (hb0 fun hp => hp.1.1 ⟨p1, p2⟩)
    clear hb0 hb1
    go_enter Tryz.func78, Tryz.ntmps78
    go_wp2
    go_ret
    exact ⟨rfl, by rw [HN.out]; rfl⟩
  have r2 : ¬ (n : Int) ≤ 60 := by omega
  by_cases p3 : 65 < n
  · have r3 : (65 : Int) < (n : Int) := by omega
    have HN : Hid (b = false) := Lib.hid (hb0 fun hp => hp.1.2 p3)
    clear hb0 hb1
    go_enter Tryz.func78, Tryz.ntmps78
    go_wp2
    go_ret
    exact ⟨rfl, by rw [HN.out]; rfl⟩
  have r3 : ¬ (65 : Int) < (n : Int) := by omega
 case' neg =>
  have r1 : ¬ (5 : Int) < (n : Int) := by omega
  have r3 : ¬ (65 : Int) < (n : Int) := by omega
 all_goals
  go_enter Tryz.func78, Tryz.ntmps78
  go_wp2
  go_loop [3] (fun v3 => ∃ (k : Nat), k ≤ n ∧ v3 = .int .i64 (k : Int) ∧ Hid (∀ (j : Nat) (s : SL) (L : List RR), j < k → S[j]? = some s → Ms[j]? = some L → fineRow s L)) (fun v3 => n - (intOf v3).toNat)
  case atStart => exact ⟨0, Nat.zero_le _, rfl, Lib.hid fun j s L hj => absurd hj (Nat.not_lt_zero _)⟩
  case round =>
   obtain ⟨k, hk, rfl, HT⟩ := hrel
   rcases Nat.lt_or_ge k n with hlt | hge
   · obtain ⟨s, hs⟩ : ∃ s, S[k]? = some s := ⟨S[k]'(by rw [HL.out]; exact hlt), List.getElem?_eq_getElem _⟩
     obtain ⟨L, hl⟩ : ∃ L, Ms[k]? = some L := ⟨Ms[k]'(by rw [HM.out.len, HL.out]; exact hlt), List.getElem?_eq_getElem _⟩
     have hra := HM.out.at_ k s L hs hl
     obtain ⟨b1, o1, rfl, hbl, hc⟩ := H.out.at_ k s hs
     have zk : (0 : Int) ≤ (k : Int) := by omega
     have zn : (k : Int) < (n : Int) := by omega
     by_cases q1 : 5 < s.m
     case' pos =>
      have r1 : (5 : Int) < (s.m : Int) := by omega
      by_cases q2 : s.m ≤ 60
      · have r2 : (s.m : Int) ≤ 60 := by omega
        have HN : Hid (b = false) := Lib.hid (hb0 fun hp => (hp.2 k s L hs hl).1.1 ⟨q1, q2⟩)
        clear hs hl hra HT
        go_wp2_with fail
        go_ret
        exact ⟨rfl, by rw [HN.out]; rfl⟩
      have r2 : ¬ (s.m : Int) ≤ 60 := by omega
      by_cases q3 : 65 < s.m
      · have r3 : (65 : Int) < (s.m : Int) := by omega
        have HN : Hid (b = false) := Lib.hid (hb0 fun hp => (hp.2 k s L hs hl).1.2 q3)
        clear hs hl hra HT
        go_wp2_with fail
        go_ret
        exact ⟨rfl, by rw [HN.out]; rfl⟩
      have r3 : ¬ (65 : Int) < (s.m : Int) := by omega
     case' neg =>
      have r1 : ¬ (5 : Int) < (s.m : Int) := by omega
      have r3 : ¬ (65 : Int) < (s.m : Int) := by omega
     all_goals
      obtain ⟨E, hE⟩ : ∃ E, L.all RR.short = E := ⟨_, rfl⟩
      have HE := Lib.hid hE
      have HRA := Lib.hid hra
      have hm65 : s.m ≤ 1000 := by omega
      clear hE
      cases E with
      | false =>
        have HN : Hid (b = false) := Lib.hid (hb0 fun hp => by have := (hp.2 k s L hs hl).2; rw [HE.out] at this; cases this)
        clear hs hl hra HT
        go_wp2_with (go_at_call 24; go_loud (refine (brief_any HRA.out hm65).mono ?_; rintro e w1 ⟨rfl, rfl⟩; rw [HE.out]))
        go_ret
        exact ⟨rfl, by rw [HN.out]; rfl⟩
      | true =>
        have HN : Hid (∀ (j : Nat) (s : SL) (L : List RR), j < k + 1 → S[j]? = some s → Ms[j]? = some L → fineRow s L) := Lib.hid fun j s' L' hj h1 h2 => by
         rcases Nat.lt_or_ge j k with hlt2 | hge2
         · exact HT.out j s' L' hlt2 h1 h2
         · obtain rfl : j = k := by omega
           rw [hs] at h1
           rw [hl] at h2
           obtain rfl := Option.some.inj h1
           obtain rfl := Option.some.inj h2
           exact ⟨⟨by omega, by omega⟩, HE.out⟩
        clear hs hl hra HT
        go_wp2_with (go_at_call 24; go_loud (refine (brief_any HRA.out hm65).mono ?_; rintro e w1 ⟨rfl, rfl⟩; rw [HE.out]))
        go_round
        case rel => exact ⟨k + 1, by omega, by go_num, HN⟩
        case measure => simp [intOf]; omega
   · obtain rfl : n = k := by omega
     have HN : Hid (b = true) := Lib.hid (hb1 ⟨⟨by omega, by omega⟩, fun j s L h1 h2 => HT.out j s L (by rw [← HL.out]; exact (List.getElem?_eq_some_iff.1 h1).1) h1 h2⟩)
     clear HT
     go_wp2
     go_ret
     exact ⟨rfl, by rw [HN.out]; rfl⟩
end Go.Proofs.YthlfhfkfjefidaaGreat
/- Which programs the law looks at: Light. -/
namespace Go.Proofs.YthlfhfkfjefidaaGreat
open Go Go.RowKit
def fineProg (n m k : Nat) (S : List SL) (Ms : List (List RR)) (Lb Lc : List RR) : Prop := fineMat n S Ms ∧ ¬ 70 < m ∧ ¬ 70 < k ∧ (m ≤ 5 → Lb.all RR.short = true) ∧ (k ≤ 5 → Lc.all RR.short = true) ∧ (proS (lens S) m k = 0 → n ≤ 4 ∧ k ≤ 3)
set_option maxRecDepth 100000 in
set_option maxHeartbeats 8000000 in
theorem light_ex (A B C : Option Addr) (n c m d k e : Nat) (S : List SL) (Ms : List (List RR)) (Lb Lc : List RR) : ∃ b : Bool, (b = true → fineProg n m k S Ms Lb Lc) ∧ ∀ w, Mt w A n c S → MtR w S Ms → RRs w B m d Lb → RRs w C k e Lc → Calls Tryz.prog 44 #[.agg #[.slice A n c, .slice B m d, .slice C k e]] w fun e' w' => Below w.heap.size w w' ∧ e' = .returned (.bool b) := by
 obtain ⟨b, hb1, hb0⟩ := known (fineProg n m k S Ms Lb Lc)
 obtain ⟨T, hT, hF, hS⟩ := small_ex A n c S Ms
 refine ⟨b, fun hb => ?_, fun w h hm hrb hrc => ?_⟩
 · by_cases hp : fineProg n m k S Ms Lb Lc
   · exact hp
   · rw [hb0 hp] at hb
     cases hb
 obtain ⟨E, hE⟩ : ∃ E, proS (lens S) m k = E := ⟨_, rfl⟩
 have HE := Lib.hid hE
 have HSM := Lib.hid hS
 clear hE hS
 have HM0 := Lib.hid h
 have HR0 := Lib.hid hm
 have HB0 := Lib.hid hrb
 have HC0 := Lib.hid hrc
 clear h hm hrb hrc
 go_enter Tryz.func44, Tryz.ntmps44
 go_upto_region 1 with fail
 generalize hW : (World.alloc _ _) = W
 have hb : Below w.heap.size w W := by rw [← hW]; exact below_alloc1 _ _
 have HX : Hid (Bk W w.heap.size 60 #[.slice A n c, .slice B m d, .slice C k e]) := Lib.hid (by rw [← hW]; exact Bk.alloc_ _ _ _)
 have HM := Lib.hid (HM0.out.later hb)
 have HR := Lib.hid (HR0.out.below hb)
 have HRB := Lib.hid (HB0.out.below hb)
 have HRC := Lib.hid (HC0.out.below hb)
 have HB := Lib.hid hb
 clear hW hb HM0 HR0 HB0 HC0
 obtain ⟨x0, x1, x2⟩ := HX.out.trio
 cases T with
 | false =>
   have HN : Hid (b = false) := Lib.hid (hb0 fun hp => hF rfl hp.1)
   clear hb0 hb1 hT hF
   go_wp2_with (go_at_call 78; go_loud (refine (HSM.out _ HM.out HR.out).mono ?_; rintro e1 w1 ⟨rfl, rfl⟩))
   go_ret
   exact ⟨HB.out, by rw [HN.out]; rfl⟩
 | true =>
   by_cases p1 : 70 < m
   · have r1 : (70 : Int) < (m : Int) := by omega
     have HN : Hid (b = false) := Lib.hid (hb0 fun hp => hp.2.1 p1)
     clear hb0 hb1
     go_wp2_with (first | (go_at_call 78; go_loud (refine (HSM.out _ HM.out HR.out).mono ?_; rintro e1 w1 ⟨rfl, rfl⟩)) | (go_at_call 24; with_reducible refine (brief_any HRB.out (by omega)).mono ?_; rintro e1 w1 ⟨rfl, rfl⟩; rw [HEB.out]) | (go_at_call 24; with_reducible refine (brief_any HRC.out (by omega)).mono ?_; rintro e1 w1 ⟨rfl, rfl⟩; rw [HEC.out]) | (go_at_call 46; go_loud (refine (checkProgram_any HM.out).mono ?_; rintro e1 w1 ⟨hb, rfl⟩; rw [HE.out]; obtain ⟨x0, x1, x2⟩ := (HX.out.below hb HX.out.lt).trio; have HB1 := Lib.hid (below_to HB.out hb HB.out.size); clear hb)))
     go_ret
     exact ⟨HB.out, by rw [HN.out]; rfl⟩
   · have r1 : ¬ (70 : Int) < (m : Int) := by omega
     by_cases p2 : 70 < k
     · have r2 : (70 : Int) < (k : Int) := by omega
       have HN : Hid (b = false) := Lib.hid (hb0 fun hp => hp.2.2.1 p2)
       clear hb0 hb1
       go_wp2_with (first | (go_at_call 78; go_loud (refine (HSM.out _ HM.out HR.out).mono ?_; rintro e1 w1 ⟨rfl, rfl⟩)) | (go_at_call 24; with_reducible refine (brief_any HRB.out (by omega)).mono ?_; rintro e1 w1 ⟨rfl, rfl⟩; rw [HEB.out]) | (go_at_call 24; with_reducible refine (brief_any HRC.out (by omega)).mono ?_; rintro e1 w1 ⟨rfl, rfl⟩; rw [HEC.out]) | (go_at_call 46; go_loud (refine (checkProgram_any HM.out).mono ?_; rintro e1 w1 ⟨hb, rfl⟩; rw [HE.out]; obtain ⟨x0, x1, x2⟩ := (HX.out.below hb HX.out.lt).trio; have HB1 := Lib.hid (below_to HB.out hb HB.out.size); clear hb)))
       go_ret
       exact ⟨HB.out, by rw [HN.out]; rfl⟩
     · have r2 : ¬ (70 : Int) < (k : Int) := by omega
       by_cases p3 : m ≤ 5
       · have r3 : (m : Int) ≤ 5 := by omega
         obtain ⟨EB, hEB⟩ : ∃ E, Lb.all RR.short = E := ⟨_, rfl⟩
         have HEB := Lib.hid hEB
         clear hEB
         cases EB with
         | false =>
           have HN : Hid (b = false) := Lib.hid (hb0 fun hp => by have h5 := hp.2.2.2.1 p3; rw [HEB.out] at h5; cases h5)
           clear hb0 hb1
           go_wp2_with (first | (go_at_call 78; go_loud (refine (HSM.out _ HM.out HR.out).mono ?_; rintro e1 w1 ⟨rfl, rfl⟩)) | (go_at_call 24; with_reducible refine (brief_any HRB.out (by omega)).mono ?_; rintro e1 w1 ⟨rfl, rfl⟩; rw [HEB.out]) | (go_at_call 24; with_reducible refine (brief_any HRC.out (by omega)).mono ?_; rintro e1 w1 ⟨rfl, rfl⟩; rw [HEC.out]) | (go_at_call 46; go_loud (refine (checkProgram_any HM.out).mono ?_; rintro e1 w1 ⟨hb, rfl⟩; rw [HE.out]; obtain ⟨x0, x1, x2⟩ := (HX.out.below hb HX.out.lt).trio; have HB1 := Lib.hid (below_to HB.out hb HB.out.size); clear hb)))
           go_ret
           exact ⟨HB.out, by rw [HN.out]; rfl⟩
         | true =>
           by_cases p4 : k ≤ 5
           · have r4 : (k : Int) ≤ 5 := by omega
             obtain ⟨EC, hEC⟩ : ∃ E, Lc.all RR.short = E := ⟨_, rfl⟩
             have HEC := Lib.hid hEC
             clear hEC
             cases EC with
             | false =>
               have HN : Hid (b = false) := Lib.hid (hb0 fun hp => by have h5 := hp.2.2.2.2.1 p4; rw [HEC.out] at h5; cases h5)
               clear hb0 hb1
               go_wp2_with (first | (go_at_call 78; go_loud (refine (HSM.out _ HM.out HR.out).mono ?_; rintro e1 w1 ⟨rfl, rfl⟩)) | (go_at_call 24; with_reducible refine (brief_any HRB.out (by omega)).mono ?_; rintro e1 w1 ⟨rfl, rfl⟩; rw [HEB.out]) | (go_at_call 24; with_reducible refine (brief_any HRC.out (by omega)).mono ?_; rintro e1 w1 ⟨rfl, rfl⟩; rw [HEC.out]) | (go_at_call 46; go_loud (refine (checkProgram_any HM.out).mono ?_; rintro e1 w1 ⟨hb, rfl⟩; rw [HE.out]; obtain ⟨x0, x1, x2⟩ := (HX.out.below hb HX.out.lt).trio; have HB1 := Lib.hid (below_to HB.out hb HB.out.size); clear hb)))
               go_ret
               exact ⟨HB.out, by rw [HN.out]; rfl⟩
             | true =>
               by_cases z0 : E = 0
               · subst z0
                 by_cases z1 : n ≤ 4
                 · have y1 : (n : Int) ≤ 4 := by omega
                   by_cases z2 : k ≤ 3
                   · have y2 : (k : Int) ≤ 3 := by omega
                     have HN : Hid (b = true) := Lib.hid (hb1 ⟨hT rfl, p1, p2, fun _ => HEB.out, fun _ => HEC.out, fun _ => ⟨z1, z2⟩⟩)
                     clear hb0 hb1
                     go_wp2_with (first | (go_at_call 78; go_loud (refine (HSM.out _ HM.out HR.out).mono ?_; rintro e1 w1 ⟨rfl, rfl⟩)) | (go_at_call 24; with_reducible refine (brief_any HRB.out (by omega)).mono ?_; rintro e1 w1 ⟨rfl, rfl⟩; rw [HEB.out]) | (go_at_call 24; with_reducible refine (brief_any HRC.out (by omega)).mono ?_; rintro e1 w1 ⟨rfl, rfl⟩; rw [HEC.out]) | (go_at_call 46; go_loud (refine (checkProgram_any HM.out).mono ?_; rintro e1 w1 ⟨hb, rfl⟩; rw [HE.out]; obtain ⟨x0, x1, x2⟩ := (HX.out.below hb HX.out.lt).trio; have HB1 := Lib.hid (below_to HB.out hb HB.out.size); clear hb)))
                     go_ret
                     exact ⟨HB1.out, by rw [HN.out]; rfl⟩
                   · have y2 : ¬ (k : Int) ≤ 3 := by omega
                     have HN : Hid (b = false) := Lib.hid (hb0 fun hp => z2 (hp.2.2.2.2.2 HE.out).2)
                     clear hb0 hb1
                     go_wp2_with (first | (go_at_call 78; go_loud (refine (HSM.out _ HM.out HR.out).mono ?_; rintro e1 w1 ⟨rfl, rfl⟩)) | (go_at_call 24; with_reducible refine (brief_any HRB.out (by omega)).mono ?_; rintro e1 w1 ⟨rfl, rfl⟩; rw [HEB.out]) | (go_at_call 24; with_reducible refine (brief_any HRC.out (by omega)).mono ?_; rintro e1 w1 ⟨rfl, rfl⟩; rw [HEC.out]) | (go_at_call 46; go_loud (refine (checkProgram_any HM.out).mono ?_; rintro e1 w1 ⟨hb, rfl⟩; rw [HE.out]; obtain ⟨x0, x1, x2⟩ := (HX.out.below hb HX.out.lt).trio; have HB1 := Lib.hid (below_to HB.out hb HB.out.size); clear hb)))
                     go_ret
                     exact ⟨HB1.out, by rw [HN.out]; exact congrArg (fun q => Ending.returned (.bool q)) (decide_eq_false (show ¬ (k : Int) ≤ 3 by omega))⟩
                 · have y1 : ¬ (n : Int) ≤ 4 := by omega
                   have HN : Hid (b = false) := Lib.hid (hb0 fun hp => z1 (hp.2.2.2.2.2 HE.out).1)
                   clear hb0 hb1
                   go_wp2_with (first | (go_at_call 78; go_loud (refine (HSM.out _ HM.out HR.out).mono ?_; rintro e1 w1 ⟨rfl, rfl⟩)) | (go_at_call 24; with_reducible refine (brief_any HRB.out (by omega)).mono ?_; rintro e1 w1 ⟨rfl, rfl⟩; rw [HEB.out]) | (go_at_call 24; with_reducible refine (brief_any HRC.out (by omega)).mono ?_; rintro e1 w1 ⟨rfl, rfl⟩; rw [HEC.out]) | (go_at_call 46; go_loud (refine (checkProgram_any HM.out).mono ?_; rintro e1 w1 ⟨hb, rfl⟩; rw [HE.out]; obtain ⟨x0, x1, x2⟩ := (HX.out.below hb HX.out.lt).trio; have HB1 := Lib.hid (below_to HB.out hb HB.out.size); clear hb)))
                   go_ret
                   exact ⟨HB1.out, by rw [HN.out]; rfl⟩
               · have HN : Hid (b = true) := Lib.hid (hb1 ⟨hT rfl, p1, p2, fun _ => HEB.out, fun _ => HEC.out, fun h => absurd (HE.out.symm.trans h) z0⟩)
                 clear hb0 hb1
                 go_wp2_with (first | (go_at_call 78; go_loud (refine (HSM.out _ HM.out HR.out).mono ?_; rintro e1 w1 ⟨rfl, rfl⟩)) | (go_at_call 24; with_reducible refine (brief_any HRB.out (by omega)).mono ?_; rintro e1 w1 ⟨rfl, rfl⟩; rw [HEB.out]) | (go_at_call 24; with_reducible refine (brief_any HRC.out (by omega)).mono ?_; rintro e1 w1 ⟨rfl, rfl⟩; rw [HEC.out]) | (go_at_call 46; go_loud (refine (checkProgram_any HM.out).mono ?_; rintro e1 w1 ⟨hb, rfl⟩; rw [HE.out]; obtain ⟨x0, x1, x2⟩ := (HX.out.below hb HX.out.lt).trio; have HB1 := Lib.hid (below_to HB.out hb HB.out.size); clear hb)))
                 go_ret
                 exact ⟨HB1.out, by rw [HN.out]; rfl⟩
           · have r4 : ¬ (k : Int) ≤ 5 := by omega
             by_cases z0 : E = 0
             · subst z0
               by_cases z1 : n ≤ 4
               · have y1 : (n : Int) ≤ 4 := by omega
                 have y2 : ¬ (k : Int) ≤ 3 := by omega
                 have HN : Hid (b = false) := Lib.hid (hb0 fun hp => p4 (Nat.le_trans (hp.2.2.2.2.2 HE.out).2 (by omega)))
                 clear hb0 hb1
                 go_wp2_with (first | (go_at_call 78; go_loud (refine (HSM.out _ HM.out HR.out).mono ?_; rintro e1 w1 ⟨rfl, rfl⟩)) | (go_at_call 24; with_reducible refine (brief_any HRB.out (by omega)).mono ?_; rintro e1 w1 ⟨rfl, rfl⟩; rw [HEB.out]) | (go_at_call 24; with_reducible refine (brief_any HRC.out (by omega)).mono ?_; rintro e1 w1 ⟨rfl, rfl⟩; rw [HEC.out]) | (go_at_call 46; go_loud (refine (checkProgram_any HM.out).mono ?_; rintro e1 w1 ⟨hb, rfl⟩; rw [HE.out]; obtain ⟨x0, x1, x2⟩ := (HX.out.below hb HX.out.lt).trio; have HB1 := Lib.hid (below_to HB.out hb HB.out.size); clear hb)))
                 go_ret
                 exact ⟨HB1.out, by rw [HN.out]; exact congrArg (fun q => Ending.returned (.bool q)) (decide_eq_false (show ¬ (k : Int) ≤ 3 by omega))⟩
               · have y1 : ¬ (n : Int) ≤ 4 := by omega
                 have HN : Hid (b = false) := Lib.hid (hb0 fun hp => z1 (hp.2.2.2.2.2 HE.out).1)
                 clear hb0 hb1
                 go_wp2_with (first | (go_at_call 78; go_loud (refine (HSM.out _ HM.out HR.out).mono ?_; rintro e1 w1 ⟨rfl, rfl⟩)) | (go_at_call 24; with_reducible refine (brief_any HRB.out (by omega)).mono ?_; rintro e1 w1 ⟨rfl, rfl⟩; rw [HEB.out]) | (go_at_call 24; with_reducible refine (brief_any HRC.out (by omega)).mono ?_; rintro e1 w1 ⟨rfl, rfl⟩; rw [HEC.out]) | (go_at_call 46; go_loud (refine (checkProgram_any HM.out).mono ?_; rintro e1 w1 ⟨hb, rfl⟩; rw [HE.out]; obtain ⟨x0, x1, x2⟩ := (HX.out.below hb HX.out.lt).trio; have HB1 := Lib.hid (below_to HB.out hb HB.out.size); clear hb)))
                 go_ret
                 exact ⟨HB1.out, by rw [HN.out]; rfl⟩
             · have HN : Hid (b = true) := Lib.hid (hb1 ⟨hT rfl, p1, p2, fun _ => HEB.out, fun h => absurd h p4, fun h => absurd (HE.out.symm.trans h) z0⟩)
               clear hb0 hb1
               go_wp2_with (first | (go_at_call 78; go_loud (refine (HSM.out _ HM.out HR.out).mono ?_; rintro e1 w1 ⟨rfl, rfl⟩)) | (go_at_call 24; with_reducible refine (brief_any HRB.out (by omega)).mono ?_; rintro e1 w1 ⟨rfl, rfl⟩; rw [HEB.out]) | (go_at_call 24; with_reducible refine (brief_any HRC.out (by omega)).mono ?_; rintro e1 w1 ⟨rfl, rfl⟩; rw [HEC.out]) | (go_at_call 46; go_loud (refine (checkProgram_any HM.out).mono ?_; rintro e1 w1 ⟨hb, rfl⟩; rw [HE.out]; obtain ⟨x0, x1, x2⟩ := (HX.out.below hb HX.out.lt).trio; have HB1 := Lib.hid (below_to HB.out hb HB.out.size); clear hb)))
               go_ret
               exact ⟨HB1.out, by rw [HN.out]; rfl⟩
       · have r3 : ¬ (m : Int) ≤ 5 := by omega
         by_cases p4 : k ≤ 5
         · have r4 : (k : Int) ≤ 5 := by omega
           obtain ⟨EC, hEC⟩ : ∃ E, Lc.all RR.short = E := ⟨_, rfl⟩
           have HEC := Lib.hid hEC
           clear hEC
           cases EC with
           | false =>
             have HN : Hid (b = false) := Lib.hid (hb0 fun hp => by have h5 := hp.2.2.2.2.1 p4; rw [HEC.out] at h5; cases h5)
             clear hb0 hb1
             go_wp2_with (first | (go_at_call 78; go_loud (refine (HSM.out _ HM.out HR.out).mono ?_; rintro e1 w1 ⟨rfl, rfl⟩)) | (go_at_call 24; with_reducible refine (brief_any HRB.out (by omega)).mono ?_; rintro e1 w1 ⟨rfl, rfl⟩; rw [HEB.out]) | (go_at_call 24; with_reducible refine (brief_any HRC.out (by omega)).mono ?_; rintro e1 w1 ⟨rfl, rfl⟩; rw [HEC.out]) | (go_at_call 46; go_loud (refine (checkProgram_any HM.out).mono ?_; rintro e1 w1 ⟨hb, rfl⟩; rw [HE.out]; obtain ⟨x0, x1, x2⟩ := (HX.out.below hb HX.out.lt).trio; have HB1 := Lib.hid (below_to HB.out hb HB.out.size); clear hb)))
             go_ret
             exact ⟨HB.out, by rw [HN.out]; rfl⟩
           | true =>
             by_cases z0 : E = 0
             · subst z0
               by_cases z1 : n ≤ 4
               · have y1 : (n : Int) ≤ 4 := by omega
                 by_cases z2 : k ≤ 3
                 · have y2 : (k : Int) ≤ 3 := by omega
                   have HN : Hid (b = true) := Lib.hid (hb1 ⟨hT rfl, p1, p2, fun h => absurd h p3, fun _ => HEC.out, fun _ => ⟨z1, z2⟩⟩)
                   clear hb0 hb1
                   go_wp2_with (first | (go_at_call 78; go_loud (refine (HSM.out _ HM.out HR.out).mono ?_; rintro e1 w1 ⟨rfl, rfl⟩)) | (go_at_call 24; with_reducible refine (brief_any HRB.out (by omega)).mono ?_; rintro e1 w1 ⟨rfl, rfl⟩; rw [HEB.out]) | (go_at_call 24; with_reducible refine (brief_any HRC.out (by omega)).mono ?_; rintro e1 w1 ⟨rfl, rfl⟩; rw [HEC.out]) | (go_at_call 46; go_loud (refine (checkProgram_any HM.out).mono ?_; rintro e1 w1 ⟨hb, rfl⟩; rw [HE.out]; obtain ⟨x0, x1, x2⟩ := (HX.out.below hb HX.out.lt).trio; have HB1 := Lib.hid (below_to HB.out hb HB.out.size); clear hb)))
                   go_ret
                   exact ⟨HB1.out, by rw [HN.out]; rfl⟩
                 · have y2 : ¬ (k : Int) ≤ 3 := by omega
                   have HN : Hid (b = false) := Lib.hid (hb0 fun hp => z2 (hp.2.2.2.2.2 HE.out).2)
                   clear hb0 hb1
                   go_wp2_with (first | (go_at_call 78; go_loud (refine (HSM.out _ HM.out HR.out).mono ?_; rintro e1 w1 ⟨rfl, rfl⟩)) | (go_at_call 24; with_reducible refine (brief_any HRB.out (by omega)).mono ?_; rintro e1 w1 ⟨rfl, rfl⟩; rw [HEB.out]) | (go_at_call 24; with_reducible refine (brief_any HRC.out (by omega)).mono ?_; rintro e1 w1 ⟨rfl, rfl⟩; rw [HEC.out]) | (go_at_call 46; go_loud (refine (checkProgram_any HM.out).mono ?_; rintro e1 w1 ⟨hb, rfl⟩; rw [HE.out]; obtain ⟨x0, x1, x2⟩ := (HX.out.below hb HX.out.lt).trio; have HB1 := Lib.hid (below_to HB.out hb HB.out.size); clear hb)))
                   go_ret
                   exact ⟨HB1.out, by rw [HN.out]; exact congrArg (fun q => Ending.returned (.bool q)) (decide_eq_false (show ¬ (k : Int) ≤ 3 by omega))⟩
               · have y1 : ¬ (n : Int) ≤ 4 := by omega
                 have HN : Hid (b = false) := Lib.hid (hb0 fun hp => z1 (hp.2.2.2.2.2 HE.out).1)
                 clear hb0 hb1
                 go_wp2_with (first | (go_at_call 78; go_loud (refine (HSM.out _ HM.out HR.out).mono ?_; rintro e1 w1 ⟨rfl, rfl⟩)) | (go_at_call 24; with_reducible refine (brief_any HRB.out (by omega)).mono ?_; rintro e1 w1 ⟨rfl, rfl⟩; rw [HEB.out]) | (go_at_call 24; with_reducible refine (brief_any HRC.out (by omega)).mono ?_; rintro e1 w1 ⟨rfl, rfl⟩; rw [HEC.out]) | (go_at_call 46; go_loud (refine (checkProgram_any HM.out).mono ?_; rintro e1 w1 ⟨hb, rfl⟩; rw [HE.out]; obtain ⟨x0, x1, x2⟩ := (HX.out.below hb HX.out.lt).trio; have HB1 := Lib.hid (below_to HB.out hb HB.out.size); clear hb)))
                 go_ret
                 exact ⟨HB1.out, by rw [HN.out]; rfl⟩
             · have HN : Hid (b = true) := Lib.hid (hb1 ⟨hT rfl, p1, p2, fun h => absurd h p3, fun _ => HEC.out, fun h => absurd (HE.out.symm.trans h) z0⟩)
               clear hb0 hb1
               go_wp2_with (first | (go_at_call 78; go_loud (refine (HSM.out _ HM.out HR.out).mono ?_; rintro e1 w1 ⟨rfl, rfl⟩)) | (go_at_call 24; with_reducible refine (brief_any HRB.out (by omega)).mono ?_; rintro e1 w1 ⟨rfl, rfl⟩; rw [HEB.out]) | (go_at_call 24; with_reducible refine (brief_any HRC.out (by omega)).mono ?_; rintro e1 w1 ⟨rfl, rfl⟩; rw [HEC.out]) | (go_at_call 46; go_loud (refine (checkProgram_any HM.out).mono ?_; rintro e1 w1 ⟨hb, rfl⟩; rw [HE.out]; obtain ⟨x0, x1, x2⟩ := (HX.out.below hb HX.out.lt).trio; have HB1 := Lib.hid (below_to HB.out hb HB.out.size); clear hb)))
               go_ret
               exact ⟨HB1.out, by rw [HN.out]; rfl⟩
         · have r4 : ¬ (k : Int) ≤ 5 := by omega
           by_cases z0 : E = 0
           · subst z0
             by_cases z1 : n ≤ 4
             · have y1 : (n : Int) ≤ 4 := by omega
               have y2 : ¬ (k : Int) ≤ 3 := by omega
               have HN : Hid (b = false) := Lib.hid (hb0 fun hp => p4 (Nat.le_trans (hp.2.2.2.2.2 HE.out).2 (by omega)))
               clear hb0 hb1
               go_wp2_with (first | (go_at_call 78; go_loud (refine (HSM.out _ HM.out HR.out).mono ?_; rintro e1 w1 ⟨rfl, rfl⟩)) | (go_at_call 24; with_reducible refine (brief_any HRB.out (by omega)).mono ?_; rintro e1 w1 ⟨rfl, rfl⟩; rw [HEB.out]) | (go_at_call 24; with_reducible refine (brief_any HRC.out (by omega)).mono ?_; rintro e1 w1 ⟨rfl, rfl⟩; rw [HEC.out]) | (go_at_call 46; go_loud (refine (checkProgram_any HM.out).mono ?_; rintro e1 w1 ⟨hb, rfl⟩; rw [HE.out]; obtain ⟨x0, x1, x2⟩ := (HX.out.below hb HX.out.lt).trio; have HB1 := Lib.hid (below_to HB.out hb HB.out.size); clear hb)))
               go_ret
               exact ⟨HB1.out, by rw [HN.out]; exact congrArg (fun q => Ending.returned (.bool q)) (decide_eq_false (show ¬ (k : Int) ≤ 3 by omega))⟩
             · have y1 : ¬ (n : Int) ≤ 4 := by omega
               have HN : Hid (b = false) := Lib.hid (hb0 fun hp => z1 (hp.2.2.2.2.2 HE.out).1)
               clear hb0 hb1
               go_wp2_with (first | (go_at_call 78; go_loud (refine (HSM.out _ HM.out HR.out).mono ?_; rintro e1 w1 ⟨rfl, rfl⟩)) | (go_at_call 24; with_reducible refine (brief_any HRB.out (by omega)).mono ?_; rintro e1 w1 ⟨rfl, rfl⟩; rw [HEB.out]) | (go_at_call 24; with_reducible refine (brief_any HRC.out (by omega)).mono ?_; rintro e1 w1 ⟨rfl, rfl⟩; rw [HEC.out]) | (go_at_call 46; go_loud (refine (checkProgram_any HM.out).mono ?_; rintro e1 w1 ⟨hb, rfl⟩; rw [HE.out]; obtain ⟨x0, x1, x2⟩ := (HX.out.below hb HX.out.lt).trio; have HB1 := Lib.hid (below_to HB.out hb HB.out.size); clear hb)))
               go_ret
               exact ⟨HB1.out, by rw [HN.out]; rfl⟩
           · have HN : Hid (b = true) := Lib.hid (hb1 ⟨hT rfl, p1, p2, fun h => absurd h p3, fun h => absurd h p4, fun h => absurd (HE.out.symm.trans h) z0⟩)
             clear hb0 hb1
             go_wp2_with (first | (go_at_call 78; go_loud (refine (HSM.out _ HM.out HR.out).mono ?_; rintro e1 w1 ⟨rfl, rfl⟩)) | (go_at_call 24; with_reducible refine (brief_any HRB.out (by omega)).mono ?_; rintro e1 w1 ⟨rfl, rfl⟩; rw [HEB.out]) | (go_at_call 24; with_reducible refine (brief_any HRC.out (by omega)).mono ?_; rintro e1 w1 ⟨rfl, rfl⟩; rw [HEC.out]) | (go_at_call 46; go_loud (refine (checkProgram_any HM.out).mono ?_; rintro e1 w1 ⟨hb, rfl⟩; rw [HE.out]; obtain ⟨x0, x1, x2⟩ := (HX.out.below hb HX.out.lt).trio; have HB1 := Lib.hid (below_to HB.out hb HB.out.size); clear hb)))
             go_ret
             exact ⟨HB1.out, by rw [HN.out]; rfl⟩
end Go.Proofs.YthlfhfkfjefidaaGreat
/- Arguments that are rows and matrices of fractions, opened. -/
namespace Go.Proofs.YthlfhfkfjefidaaGreat
open Go.Joins Go.ChangeShapes Go.WideShapes Go.RowKit Go.Deep Go.ChangeAt
theorem list_fn {α : Type} {n : Nat} {p : Nat → α → Prop} (h : ∀ i, i < n → ∃ x, p i x) : ∃ l : List α, l.length = n ∧ ∀ i x, l[i]? = some x → p i x := by
 induction n with
 | zero => exact ⟨[], rfl, fun i x h => by simp at h⟩
 | succ n ih =>
   obtain ⟨l, h1, h2⟩ := ih fun i hi => h i (by omega)
   obtain ⟨x, hx⟩ := h n (by omega)
   refine ⟨l ++ [x], by simp [h1], fun i y hy => ?_⟩
   rcases Nat.lt_or_ge i n with hi | hi
   · rw [List.getElem?_append_left (by omega)] at hy
     exact h2 i y hy
   · rw [List.getElem?_append_right (by omega)] at hy
     obtain ⟨h3, h4⟩ := List.getElem?_eq_some_iff.1 hy
     simp at h3
     obtain rfl : i = n := by omega
     simp at h4
     subst h4
     exact hx
theorem list4 {cs : List Value} (h : cs.length = 4) : ∃ a b c d, cs = [a, b, c, d] := by
 match cs, h with
 | [a, b, c, d], _ => exact ⟨a, b, c, d, rfl⟩
theorem list1 {cs : List Value} (h : cs.length = 1) : ∃ a, cs = [a] := by
 match cs, h with
 | [a], _ => exact ⟨a, rfl⟩
section
variable {H : Type} {enc : TypeId × Value → H} {w : World} {fuel : Nat} {x : DataW H × List MemPlace}
set_option maxRecDepth 100000 in
theorem open_RC {a b c d : Value} (h : DataW.trod enc Tryz.prog w 0 (fun _ => true) true fuel 41 [a, b, c, d] = some x) :
 ∃ r : RR, a = .bool r.s1 ∧ b = .slice r.A1 r.n1 r.c1 ∧ c = .bool r.s2 ∧ d = .slice r.A2 r.n2 r.c2 ∧ Lim w w.heap.size r.A1 r.n1 r.c1 r.l1 ∧ Lim w w.heap.size r.A2 r.n2 r.c2 r.l2 := by
 obtain ⟨f0, f1, hu, t0, t1, o0, o1⟩ : ∃ f0 f1, Tryz.prog.underlying 41 = some (.struct #[f0, f1]) ∧ f0.type = 24 ∧ f1.type = 24 ∧ f0.offset = 0 ∧ f1.offset = 2 :=
  ⟨(Tryz.prog.fieldsOf 41)[0]!, (Tryz.prog.fieldsOf 41)[1]!, by kernel_rfl, by kernel_rfl, by kernel_rfl, by kernel_rfl, by kernel_rfl⟩
 have hI : Tryz.prog.cellsOf 24 = 2 := by kernel_rfl
 obtain ⟨y0, y1, n, -, -, h0, h1⟩ := trod_struct2 hu h
 have j0 : DataW.trod enc Tryz.prog w 0 (fun _ => true) true n 24 [a, b] = some y0 := by simpa [t0, o0, hI] using h0
 have j1 : DataW.trod enc Tryz.prog w 0 (fun _ => true) true n 24 [c, d] = some y1 := by simpa [t1, o1, hI] using h1
 obtain ⟨s, A, n1, c1, l, rfl, rfl, hl⟩ := open_IC j0
 obtain ⟨t, B, m, e, k, rfl, rfl, hk⟩ := open_IC j1
 exact ⟨⟨s, A, n1, c1, t, B, m, e, l, k⟩, rfl, rfl, rfl, rfl, hl, hk⟩
set_option maxRecDepth 100000 in
theorem open_RRs {u : Value} (h : DataW.trod enc Tryz.prog w 0 (fun _ => true) true fuel 58 [u] = some x) : ∃ (A : Option Addr) (n c : Nat) (L : List RR), u = .slice A n c ∧ RRs w A n c L := by
 have hC : Tryz.prog.cellsOf 41 = 4 := by kernel_rfl
 rcases open_slice Tryz.underlying58 h with ⟨hcs, _⟩ | ⟨a, len, cap, m, n', D, Pl, hcs, _, hl, hm, hmm, _, hi⟩
 · exact ⟨none, 0, 0, [], by simpa using hcs, rfl, Nat.le_refl _, by omega, fun k r hk => by simp at hk⟩
 · have hu : u = .slice (some a) len cap := by simpa using hcs
   simp only [if_true] at hmm
   subst hmm
   have key : ∀ i, i < len → ∃ r : RR, w.cell? (a.add (i * 4)) = some (.bool r.s1) ∧ w.cell? (a.add (i * 4 + 1)) = some (.slice r.A1 r.n1 r.c1) ∧ w.cell? (a.add (i * 4 + 2)) = some (.bool r.s2) ∧ w.cell? (a.add (i * 4 + 3)) = some (.slice r.A2 r.n2 r.c2) ∧ Lim w w.heap.size r.A1 r.n1 r.c1 r.l1 ∧ Lim w w.heap.size r.A2 r.n2 r.c2 r.l2 := by
    intro i hin
    obtain ⟨cs', hc, ht⟩ := hi i (by omega)
    rw [hC] at hc
    obtain ⟨_, hcl, hat⟩ := World.cells?_some hc
    obtain ⟨c0, c1, c2, c3, rfl⟩ := list4 hcl
    obtain ⟨r, rfl, rfl, rfl, rfl, h1, h2⟩ := open_RC ht
    refine ⟨r, ?_, ?_, ?_, ?_, h1, h2⟩
    · have := hat 0 (by omega)
      rw [add_add] at this
      simpa using this
    · have := hat 1 (by omega)
      rw [add_add] at this
      simpa using this
    · have := hat 2 (by omega)
      rw [add_add] at this
      simpa using this
    · have := hat 3 (by omega)
      rw [add_add] at this
      simpa using this
   obtain ⟨l, hll, hlp⟩ := list_fn key
   refine ⟨some a, len, _, l, hu, hll, hl, by simpa [maxLen] using hm, fun k r hk => ?_⟩
   obtain ⟨e0, e1, e2, e3, h1, h2⟩ := hlp k r hk
   have hk0 : 0 < l.length := Nat.lt_of_le_of_lt (Nat.zero_le _) (List.getElem?_eq_some_iff.1 hk).1
   obtain ⟨z0, -⟩ := hlp 0 _ (List.getElem?_eq_getElem hk0)
   rw [Nat.zero_mul, show a.add 0 = a from rfl] at z0
   have hs := spot_of_cellI z0
   rw [hs, add_plainI] at e0 e1 e2 e3
   exact ⟨a.block, a.off, congrArg some hs, World.block_lt_of_cell? w _ z0, e0, by rw [Nat.add_assoc]; exact e1, by rw [Nat.add_assoc]; exact e2, by rw [Nat.add_assoc]; exact e3, h1, h2⟩
set_option maxRecDepth 100000 in
theorem open_mat {u : Value} (h : DataW.trod enc Tryz.prog w 0 (fun _ => true) true fuel 57 [u] = some x) : ∃ (A : Option Addr) (n c : Nat) (S : List SL) (Ms : List (List RR)), u = .slice A n c ∧ Mt w A n c S ∧ MtR w S Ms := by
 have hC : Tryz.prog.cellsOf 58 = 1 := by kernel_rfl
 rcases open_slice Tryz.underlying57 h with ⟨hcs, _⟩ | ⟨a, len, cap, m, n', D, Pl, hcs, _, hl, hm, hmm, _, hi⟩
 · exact ⟨none, 0, 0, [], [], by simpa using hcs, ⟨rfl, Nat.le_refl _, by omega, fun k r hk => by simp at hk⟩, ⟨rfl, fun k s r hk => by simp at hk⟩⟩
 · have hu : u = .slice (some a) len cap := by simpa using hcs
   simp only [if_true] at hmm
   subst hmm
   have key : ∀ i, i < len → ∃ p : SL × List RR, w.cell? (a.add i) = some (.slice p.1.B p.1.m p.1.e) ∧ RRs w p.1.B p.1.m p.1.e p.2 := by
    intro i hin
    obtain ⟨cs', hc, ht⟩ := hi i (by omega)
    rw [hC] at hc
    obtain ⟨_, hcl, hat⟩ := World.cells?_some hc
    obtain ⟨c0, rfl⟩ := list1 hcl
    obtain ⟨B, q, e, L, rfl, hr⟩ := open_RRs ht
    refine ⟨(⟨B, q, e⟩, L), ?_, hr⟩
    have := hat 0 (by omega)
    rw [add_add, Nat.mul_one] at this
    simpa using this
   obtain ⟨l, hll, hlp⟩ := list_fn key
   refine ⟨some a, len, _, l.map Prod.fst, l.map Prod.snd, hu, ⟨by rw [List.length_map]; exact hll, hl, by simpa [maxLen] using hm, fun k s hk => ?_⟩, ⟨by rw [List.length_map, List.length_map], fun k s L h1 h2 => ?_⟩⟩
   · rw [List.getElem?_map] at hk
     obtain ⟨p, hp, rfl⟩ := Option.map_eq_some_iff.1 hk
     obtain ⟨e0, -⟩ := hlp k p hp
     have hk0 : 0 < l.length := Nat.lt_of_le_of_lt (Nat.zero_le _) (List.getElem?_eq_some_iff.1 hp).1
     obtain ⟨z0, -⟩ := hlp 0 _ (List.getElem?_eq_getElem hk0)
     rw [show a.add 0 = a from rfl] at z0
     have hs := spot_of_cellI z0
     rw [hs, add_plainI] at e0
     exact ⟨a.block, a.off, congrArg some hs, World.block_lt_of_cell? w _ z0, e0⟩
   · rw [List.getElem?_map] at h1 h2
     obtain ⟨p, hp, rfl⟩ := Option.map_eq_some_iff.1 h1
     obtain ⟨q, hq, rfl⟩ := Option.map_eq_some_iff.1 h2
     rw [hp] at hq
     obtain rfl := Option.some.inj hq
     exact (hlp k p hp).2
set_option maxRecDepth 100000 in
theorem open_P {v : Value} {d : DataW H} {ps : List MemPlace} {r : Reach} {b0 : Nat} (hv : Value.okWide Tryz.prog w r b0 60 v) (h : DataW.Trod enc Tryz.prog w 0 (fun _ => true) true 60 v d ps) :
 ∃ (A B C : Option Addr) (n c m e k f : Nat) (S : List SL) (Ms : List (List RR)) (Lb Lc : List RR), v = .agg #[.slice A n c, .slice B m e, .slice C k f] ∧ Mt w A n c S ∧ MtR w S Ms ∧ RRs w B m e Lb ∧ RRs w C k f Lc := by
 obtain ⟨f0, f1, f2, hu, ho, t0, t1, t2⟩ : ∃ f0 f1 f2, Tryz.prog.underlying 60 = some (.struct #[f0, f1, f2]) ∧ oneCellFields Tryz.prog #[f0, f1, f2] = true ∧ f0.type = 57 ∧ f1.type = 58 ∧ f2.type = 58 :=
  ⟨(Tryz.prog.fieldsOf 60)[0]!, (Tryz.prog.fieldsOf 60)[1]!, (Tryz.prog.fieldsOf 60)[2]!, by kernel_rfl, by kernel_rfl, by kernel_rfl, by kernel_rfl, by kernel_rfl⟩
 have hP : Tryz.prog.cellsOf 60 = 3 := by kernel_rfl
 obtain ⟨cs, rfl, hsz⟩ := okWide_struct hu hv
 obtain ⟨c0, c1, c2, rfl⟩ := array3 (hsz.trans hP)
 obtain ⟨fuel, hf⟩ := h
 obtain ⟨y0, y1, y2, n, -, -, h0, h1, h2⟩ := trod_struct3 hu hf
 obtain ⟨o0, k0⟩ := hone_of ho 0 f0 rfl
 obtain ⟨o1, k1⟩ := hone_of ho 1 f1 rfl
 obtain ⟨o2, k2⟩ := hone_of ho 2 f2 rfl
 have j0 : DataW.trod enc Tryz.prog w 0 (fun _ => true) true n f0.type [c0] = some y0 := by simpa [Value.cells, o0, k0] using h0
 have j1 : DataW.trod enc Tryz.prog w 0 (fun _ => true) true n f1.type [c1] = some y1 := by simpa [Value.cells, o1, k1] using h1
 have j2 : DataW.trod enc Tryz.prog w 0 (fun _ => true) true n f2.type [c2] = some y2 := by simpa [Value.cells, o2, k2] using h2
 rw [t0] at j0
 rw [t1] at j1
 rw [t2] at j2
 obtain ⟨A, n1, c, S, Ms, rfl, g1, g2⟩ := open_mat j0
 obtain ⟨B, m, e, Lb, rfl, g3⟩ := open_RRs j1
 obtain ⟨C, k, f, Lc, rfl, g4⟩ := open_RRs j2
 exact ⟨A, B, C, n1, c, m, e, k, f, S, Ms, Lb, Lc, rfl, g1, g2, g3, g4⟩
theorem array8 {α : Type} {cs : Array α} (h : cs.size = 8) : ∃ c0 c1 c2 c3 c4 c5 c6 c7, cs = #[c0, c1, c2, c3, c4, c5, c6, c7] := by
 obtain ⟨l⟩ := cs
 match l, h with
 | [c0, c1, c2, c3, c4, c5, c6, c7], _ => exact ⟨c0, c1, c2, c3, c4, c5, c6, c7, rfl⟩
theorem trod_struct5 {P : Program} {t : TypeId} {f0 f1 f2 f3 f4 : Field} {cs : List Value} (ht : P.underlying t = some (.struct #[f0, f1, f2, f3, f4])) (h : DataW.trod enc P w 0 (fun _ => true) true fuel t cs = some x) :
 ∃ y0 y1 y2 y3 y4 n, DataW.trod enc P w 0 (fun _ => true) true n f0.type ((cs.drop f0.offset).take (P.cellsOf f0.type)) = some y0 ∧ DataW.trod enc P w 0 (fun _ => true) true n f1.type ((cs.drop f1.offset).take (P.cellsOf f1.type)) = some y1 ∧
  DataW.trod enc P w 0 (fun _ => true) true n f2.type ((cs.drop f2.offset).take (P.cellsOf f2.type)) = some y2 ∧ DataW.trod enc P w 0 (fun _ => true) true n f3.type ((cs.drop f3.offset).take (P.cellsOf f3.type)) = some y3 ∧ DataW.trod enc P w 0 (fun _ => true) true n f4.type ((cs.drop f4.offset).take (P.cellsOf f4.type)) = some y4 := by
 obtain ⟨xs, n, _, rfl, hl, hlen, hf⟩ := DataW.trod_struct ht h
 match xs, hlen with
 | [y0, y1, y2, y3, y4], _ => exact ⟨y0, y1, y2, y3, y4, n, by simpa using hf 0 f0 rfl, by simpa using hf 1 f1 rfl, by simpa using hf 2 f2 rfl, by simpa using hf 3 f3 rfl, by simpa using hf 4 f4 rfl⟩
set_option maxRecDepth 100000 in
theorem open_O {v : Value} {d : DataW H} {ps : List MemPlace} {r : Reach} {b0 : Nat} (hv : Value.okWide Tryz.prog w r b0 62 v) (h : DataW.Trod enc Tryz.prog w 0 (fun _ => true) true 62 v d ps) :
 ∃ (kd : Int) (A B C : Option Addr) (n c m e k f : Nat) (Lx Ly Lr : List RR) (q : RR), v = .agg #[.int .i64 kd, .slice A n c, .slice B m e, .slice C k f, .bool q.s1, .slice q.A1 q.n1 q.c1, .bool q.s2, .slice q.A2 q.n2 q.c2] ∧ RRs w A n c Lx ∧ RRs w B m e Ly ∧ RRs w C k f Lr ∧ Lim w w.heap.size q.A1 q.n1 q.c1 q.l1 ∧ Lim w w.heap.size q.A2 q.n2 q.c2 q.l2 := by
 obtain ⟨f0, f1, f2, f3, f4, hu, ⟨t0, t1, t2, t3, t4⟩, ⟨o0, o1, o2, o3, o4⟩⟩ : ∃ f0 f1 f2 f3 f4, Tryz.prog.underlying 62 = some (.struct #[f0, f1, f2, f3, f4]) ∧ (f0.type = 3 ∧ f1.type = 58 ∧ f2.type = 58 ∧ f3.type = 58 ∧ f4.type = 41) ∧ (f0.offset = 0 ∧ f1.offset = 1 ∧ f2.offset = 2 ∧ f3.offset = 3 ∧ f4.offset = 4) :=
  ⟨(Tryz.prog.fieldsOf 62)[0]!, (Tryz.prog.fieldsOf 62)[1]!, (Tryz.prog.fieldsOf 62)[2]!, (Tryz.prog.fieldsOf 62)[3]!, (Tryz.prog.fieldsOf 62)[4]!, by kernel_rfl, ⟨by kernel_rfl, by kernel_rfl, by kernel_rfl, by kernel_rfl, by kernel_rfl⟩, ⟨by kernel_rfl, by kernel_rfl, by kernel_rfl, by kernel_rfl, by kernel_rfl⟩⟩
 have hP : Tryz.prog.cellsOf 62 = 8 := by kernel_rfl
 have hI : Tryz.prog.cellsOf 3 = 1 := by kernel_rfl
 have hS : Tryz.prog.cellsOf 58 = 1 := by kernel_rfl
 have hR : Tryz.prog.cellsOf 41 = 4 := by kernel_rfl
 obtain ⟨cs, rfl, hsz⟩ := okWide_struct hu hv
 obtain ⟨c0, c1, c2, c3, c4, c5, c6, c7, rfl⟩ := array8 (hsz.trans hP)
 obtain ⟨fuel, hf⟩ := h
 obtain ⟨y0, y1, y2, y3, y4, n, h0, h1, h2, h3, h4⟩ := trod_struct5 hu hf
 have j0 : DataW.trod enc Tryz.prog w 0 (fun _ => true) true n 3 [c0] = some y0 := by simpa [Value.cells, t0, o0, hI] using h0
 have j1 : DataW.trod enc Tryz.prog w 0 (fun _ => true) true n 58 [c1] = some y1 := by simpa [Value.cells, t1, o1, hS] using h1
 have j2 : DataW.trod enc Tryz.prog w 0 (fun _ => true) true n 58 [c2] = some y2 := by simpa [Value.cells, t2, o2, hS] using h2
 have j3 : DataW.trod enc Tryz.prog w 0 (fun _ => true) true n 58 [c3] = some y3 := by simpa [Value.cells, t3, o3, hS] using h3
 have j4 : DataW.trod enc Tryz.prog w 0 (fun _ => true) true n 41 [c4, c5, c6, c7] = some y4 := by simpa [Value.cells, t4, o4, hR] using h4
 obtain ⟨kd, e0, -, -⟩ := DataW.trod_int Tryz.underlying3 j0
 obtain rfl : c0 = .int .i64 kd := by simpa using e0
 obtain ⟨A, n1, c, Lx, rfl, g1⟩ := open_RRs j1
 obtain ⟨B, m, e, Ly, rfl, g2⟩ := open_RRs j2
 obtain ⟨C, k, f, Lr, rfl, g3⟩ := open_RRs j3
 obtain ⟨q, rfl, rfl, rfl, rfl, g4, g5⟩ := open_RC j4
 exact ⟨kd, A, B, C, n1, c, m, e, k, f, Lx, Ly, Lr, q, rfl, g1, g2, g3, g4, g5⟩
end
end Go.Proofs.YthlfhfkfjefidaaGreat
