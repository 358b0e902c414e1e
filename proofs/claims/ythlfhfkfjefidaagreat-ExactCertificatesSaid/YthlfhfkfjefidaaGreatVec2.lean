/- Several texts in one. -/
import Derived.Test.YthlfhfkfjefidaaGreatVec1
import Derived.Test.YthlfhfkfjefidaaGreatSignG
import Derived.Test.YthlfhfkfjefidaaGreatFracE
import Derived.Test.YthlfhfkfjefidaaGreatRefF
/- Lists and columns of fractions, the program: product, zeros, column, hasNegative. -/
namespace Go.Proofs.YthlfhfkfjefidaaGreat
open Go Go.RowKit
abbrev RatOut (x : Rat) (K : Nat) (w : World) (e : Ending) (w' : World) : Prop := Below w.heap.size w w' ∧ ∃ s1 A1 n1 c1 s2 A2 n2 c2, e = .returned (.agg #[.bool s1, .slice A1 n1 c1, .bool s2, .slice A2 n2 c2]) ∧ RatH w' s1 A1 n1 c1 s2 A2 n2 c2 x K false
set_option maxRecDepth 100000 in
set_option maxHeartbeats 4000000 in
theorem product_any {w : World} {A B : Option Addr} {n c d : Nat} {L M : List Rat} (h1 : Rts w A n c L 3) (h2 : Rts w B n d M 3) (hn : n ≤ 8) :
 Calls Tryz.prog 115 #[.slice A n c, .slice B n d] w (RatOut (dotQ L M) (n * (n * 8 + 11) + (n * 8 + 2)) w) := by
 have H1 := Lib.hid h1
 have H2 := Lib.hid h2
 clear h1 h2
 go_enter Tryz.func115, Tryz.ntmps115
 go_upto_region 1 with fail
 generalize hW : (World.alloc _ _) = W
 have HB0 : Hid (Below w.heap.size w W) := Lib.hid (by rw [← hW]; exact below_alloc1 _ _)
 have HR0 : Hid (Bk W w.heap.size 41 #[.bool false, .slice none 0 0, .bool false, .slice none 0 0]) := Lib.hid (by rw [← hW]; exact Bk.alloc_ _ _ _)
 clear hW
 go_wp2_with (first
  | (go_at_call 137; have hnot := HBA; with_reducible refine (vectorOf_any (H2.out.later HBA.out) hn (by omega)).mono ?_; rintro e wb ⟨hbb, Ab, cb, sb, Bb, mb, eb, Nb, db, rfl, hits, hden, hvec⟩; have HBB := Lib.hid (below_to HBA.out hbb HBA.out.size); have HRB := Lib.hid (HRA.out.below hbb HRA.out.lt); have HIB := Lib.hid hits; have HDB := Lib.hid hden; have HVB := Lib.hid hvec; have HIA2 := Lib.hid (HIA.out.later hbb); have HDA2 := Lib.hid (HDA.out.later hbb); clear hits hden hvec hbb)
  | (go_at_call 137; go_loud (with_reducible refine (vectorOf_any (H1.out.later HB0.out) hn (by omega)).mono ?_; rintro e wa ⟨hba, Aa, ca, sa, Ba, ma, ea, Na, da, rfl, hits, hden, hvec⟩; have HBA := Lib.hid (below_to HB0.out hba HB0.out.size); have HRA := Lib.hid (HR0.out.below hba HR0.out.lt); have HIA := Lib.hid hits; have HDA := Lib.hid hden; have HVA := Lib.hid hvec; clear hits hden hvec hba))
  | (go_at_call 138; go_loud (with_reducible refine (dot_any HIA2.out HIB.out HDA2.out HDB.out HVA.out.pos HVB.out.pos hn (by omega) (by omega) (by omega) (by omega)).mono ?_; rintro e wd ⟨hbd, t1, D1, m1, d1, t2, D2, m2, d2, rfl, hr⟩; rw [HVA.out.dot HVB.out] at hr; have HBD := Lib.hid (below_to HBB.out hbd HBB.out.size); have HRD := Lib.hid (HRB.out.below hbd HRB.out.lt); have HQ := Lib.hid hr; clear hr hbd; have hk := HRD.out; obtain ⟨r0, r1, r2, r3⟩ := hk.four4; have f0 := hk.frozen 0; have f1 := hk.frozen 1; have f2 := hk.frozen 2; have f3 := hk.frozen 3; clear hk)))
 obtain ⟨V, hV, hBV, hRV, hQV, -⟩ := stored_over HBD.out (Nat.le_refl _) HRD.out HQ.out
 rw [← hV]
 clear hV r0 r1 r2 r3 f0 f1 f2 f3
 obtain ⟨u0, u1, u2, u3⟩ := hRV.four4
 have HQV := Lib.hid (And.intro hBV hQV)
 clear hBV hRV hQV
 refine bodyPost_ret (v := .agg #[.bool t1, .slice D1 m1 d1, .bool t2, .slice D2 m2 d2]) (by simp [results, Tryz.results115, go_sem, u0, u1, u2, u3]) rfl ?_
 have e5 : n * (n * 4 + 5 + (n * 4 + 5) + 1) + (n * 4 + 1 + (n * 4 + 1)) = n * (n * 8 + 11) + (n * 8 + 2) := by
  rw [show n * 4 + 5 + (n * 4 + 5) + 1 = n * 8 + 11 by omega]
  omega
 exact ⟨HQV.out.1, t1, D1, m1, d1, t2, D2, m2, d2, rfl, by rw [← e5]; exact HQV.out.2⟩
theorem cmp_num_ (x : Rat) : cmpI x.num 0 = cmpQ x 0 := by
 have h := cmp_cross (p := x.num) (q := (x.den : Int)) (r := 0) (s := 1) (y := 0) (Rat.num_divInt_den x) (by rfl) (by have := x.den_pos; omega) (by omega)
 simpa using h
section
variable {w w1 : World} {s1 s2 : Bool} {A1 A2 : Option Addr} {n1 c1 n2 c2 : Nat} {x : Rat} {K : Nat} {nf : Bool}
theorem signRH (h : RatH w1 s1 A1 n1 c1 s2 A2 n2 c2 x K nf) (b1 : Below w1.heap.size w1 w) {C : Int} (hC : cmpQ x 0 = C) :
 Calls Tryz.prog 81 #[.agg #[.bool s1, .slice A1 n1 c1, .bool s2, .slice A2 n2 c2]] w fun e w' => Below w.heap.size w w' ∧ e = .returned (.int .i64 C) := by
 obtain ⟨l1, l2, g1, g2, e, -⟩ := h.lim
 refine (signOfRat_any s1 s2 A1 A2 n1 c1 n2 c2 l1 l2 w (g1 w b1) (g2 w b1)).mono ?_
 rintro e' w' ⟨rfl, hb⟩
 refine ⟨hb, ?_⟩
 rw [← hC, ← cmp_num_, e, cmp_frac]
 unfold tnum
 split
 · rw [show ∀ a : Int, cmpI (-a) 0 = -(cmpI a 0) from fun a => by
    unfold cmpI
    rcases Int.lt_trichotomy a 0 with h | h | h
    · rw [if_neg (by omega), if_neg (by omega), if_pos h]; rfl
    · subst h; rfl
    · rw [if_pos (by omega), if_neg (by omega), if_neg (by omega)]]
 · rfl
theorem cmpQ_cases (x y : Rat) : (x < y ∧ cmpQ x y = -1) ∨ (x = y ∧ cmpQ x y = 0) ∨ (y < x ∧ cmpQ x y = 1) := by
 unfold cmpQ
 by_cases h1 : x < y
 · exact .inl ⟨h1, if_pos h1⟩
 · by_cases h2 : x = y
   · exact .inr (.inl ⟨h2, by rw [if_neg h1, if_pos h2]⟩)
   · exact .inr (.inr ⟨by grind, by rw [if_neg h1, if_neg h2]⟩)
theorem sign_neg (x : Rat) : ∃ C : Int, cmpQ x 0 = C ∧ decide (C < 0) = decide (x < 0) ∧ decide (0 < C) = decide (0 < x) ∧ decide (C = 0) = decide (x = 0) := by
 refine ⟨_, rfl, ?_, ?_, ?_⟩
 all_goals
  rcases cmpQ_cases x 0 with ⟨h, e⟩ | ⟨h, e⟩ | ⟨h, e⟩ <;> rw [e] <;> simp <;> grind
set_option maxHeartbeats 1000000 in
theorem negf_any (h : RatH w1 s1 A1 n1 c1 s2 A2 n2 c2 x K nf) (b1 : Below w1.heap.size w1 w) :
 Calls Tryz.prog 150 #[.agg #[.bool s1, .slice A1 n1 c1, .bool s2, .slice A2 n2 c2]] w fun e w' => Below w.heap.size w w' ∧ e = .returned (.bool (decide (x < 0))) := by
 have H := Lib.hid h
 have HB1 := Lib.hid b1
 clear h b1
 obtain ⟨C, hC, hd, -⟩ := sign_neg x
 have HC := Lib.hid hC
 have HD := Lib.hid hd
 clear hC hd
 go_enter Tryz.func150, Tryz.ntmps150
 go_upto_region 1 with fail
 generalize hW : (World.alloc _ _) = W
 have HB : Hid (Below w.heap.size w W) := Lib.hid (by rw [← hW]; exact below_alloc1 _ _)
 have hk : Bk W w.heap.size 41 #[.bool s1, .slice A1 n1 c1, .bool s2, .slice A2 n2 c2] := by rw [← hW]; exact Bk.alloc_ _ _ _
 clear hW
 obtain ⟨x0, x1, x2, x3⟩ := hk.four4
 clear hk
 go_wp2_with (go_at_call 81; go_loud (refine (signRH H.out (below_to HB1.out HB.out HB1.out.size) HC.out).mono ?_; rintro e w2 ⟨hb2, rfl⟩; have HB2 := Lib.hid (below_to HB.out hb2 HB.out.size); clear hb2))
 go_ret
 exact ⟨HB2.out, by rw [← HD.out]; rfl⟩
end
set_option maxRecDepth 100000 in
set_option maxHeartbeats 1600000 in
theorem index_neg {w : World} {A : Option Addr} {n c K : Nat} {L : List Rat} (h : Rts w A n c L K) :
 Calls Tryz.prog 154 #[.slice A n c, .func (.func 150) #[] #[]] w fun e w' => Below w.heap.size w w' ∧ ∃ i : Int, e = .returned (.int .i64 i) ∧ (nnL L = true → i < 0) ∧ (nnL L = false → 0 ≤ i) := by
 have hcap := h.cap
 have hmax := h.max
 have HL := Lib.hid h.len
 have H := Lib.hid h
 clear h
 go_enter Tryz.func154, Tryz.ntmps154
 go_wp2
 go_loopw [5, 8] (fun _ v8 wr => ∃ (k : Nat), k ≤ n ∧ v8 = .int .i64 (k : Int) ∧ Below w.heap.size w wr ∧ Hid (∀ (j : Nat) (x : Rat), j < k → L[j]? = some x → ¬ x < 0)) (fun _ v8 _ => n - (intOf v8).toNat)
 case atStart => exact ⟨0, Nat.zero_le _, rfl, Below.refl _ _, Lib.hid fun j s hj => absurd hj (Nat.not_lt_zero _)⟩
 case round =>
  obtain ⟨k, hk, rfl, hb, HT⟩ := hrel
  have HB := Lib.hid hb
  clear hb
  rcases Nat.lt_or_ge k n with hlt | hge
  · obtain ⟨x, hx⟩ : ∃ x, L[k]? = some x := ⟨L[k]'(by rw [HL.out]; exact hlt), List.getElem?_eq_getElem _⟩
    obtain ⟨b, o, s1, A1, n1, c1, s2, A2, n2, c2, rfl, hbl, fa⟩ := H.out.at_ k x hx
    have y0 := (HB.out.cell (p := ⟨b, o + k * 4, none⟩) hbl).trans fa.ha
    have y1 := (HB.out.cell (p := ⟨b, o + k * 4 + 1, none⟩) hbl).trans fa.hb
    have y2 := (HB.out.cell (p := ⟨b, o + k * 4 + 2, none⟩) hbl).trans fa.hc
    have y3 := (HB.out.cell (p := ⟨b, o + k * 4 + 3, none⟩) hbl).trans fa.hd
    have HF := Lib.hid fa.r
    have HX := Lib.hid hx
    clear hx fa
    have zk : (0 : Int) ≤ (k : Int) := by omega
    have zn : (k : Int) < (n : Int) := by omega
    obtain ⟨d, hd⟩ : ∃ d, decide (x < 0) = d := ⟨_, rfl⟩
    have HD := Lib.hid hd
    clear hd
    cases d with
    | false =>
      go_wp2_with (go_at_call 150; go_loud (refine (negf_any HF.out (by exact HB.out)).mono ?_; rintro e w2 ⟨hb2, rfl⟩; rw [HD.out]; have HB2 := Lib.hid (below_to HB.out hb2 HB.out.size); clear hb2))
      go_roundw
      case rel => exact ⟨k + 1, by omega, by go_num, HB2.out, Lib.hid fun j y hj hy => by
       rcases Nat.lt_or_ge j k with h1 | h1
       · exact HT.out j y h1 hy
       · obtain rfl : j = k := by omega
         rw [HX.out] at hy
         obtain rfl := Option.some.inj hy
         exact of_decide_eq_false HD.out⟩
      case measure => simp [intOf]; omega
    | true =>
      go_wp2_with (go_at_call 150; go_loud (refine (negf_any HF.out (by exact HB.out)).mono ?_; rintro e w2 ⟨hb2, rfl⟩; rw [HD.out]; have HB2 := Lib.hid (below_to HB.out hb2 HB.out.size); clear hb2))
      go_ret
      have hneg : nnL L = false := nnL_no HX.out (by have := of_decide_eq_true HD.out; grind)
      exact ⟨HB2.out, (k : Int), rfl, fun h => (by rw [hneg] at h; cases h), fun _ => by omega⟩
  · obtain rfl : n = k := by omega
    have hpos : nnL L = true := nnL_of fun j a ha => by
     have hj : j < n := by rw [← HL.out]; exact (List.getElem?_eq_some_iff.1 ha).1
     have := HT.out j a hj ha
     grind
    have HP := Lib.hid hpos
    clear hpos HT
    go_wp2
    go_ret
    exact ⟨HB.out, -1, rfl, fun _ => by omega, fun h => by rw [HP.out] at h; cases h⟩
set_option maxHeartbeats 1000000 in
theorem contains_neg {w : World} {A : Option Addr} {n c K : Nat} {L : List Rat} (h : Rts w A n c L K) :
 Calls Tryz.prog 149 #[.slice A n c, .func (.func 150) #[] #[]] w fun e w' => Below w.heap.size w w' ∧ e = .returned (.bool (!(nnL L))) := by
 have H := Lib.hid h
 clear h
 obtain ⟨N, hN⟩ : ∃ N, nnL L = N := ⟨_, rfl⟩
 have HN := Lib.hid hN
 rw [hN]
 clear hN
 go_enter Tryz.func149, Tryz.ntmps149
 cases N with
 | true =>
   go_wp2_with (go_at_call 154; go_loud (refine (index_neg H.out).mono ?_; rintro e w2 ⟨hb2, i, rfl, hi, -⟩; have hi := hi HN.out; have hi2 : ¬ (0 : Int) ≤ i := Int.not_le.2 hi; have HB2 := Lib.hid hb2; clear hb2))
   go_ret
   refine ⟨HB2.out, ?_⟩
   show Ending.returned (.bool (decide (0 ≤ i))) = _
   rw [decide_eq_false (show ¬ (0 : Int) ≤ i by omega)]
   rfl
 | false =>
   go_wp2_with (go_at_call 154; go_loud (refine (index_neg H.out).mono ?_; rintro e w2 ⟨hb2, i, rfl, -, hi⟩; have hi := hi HN.out; have HB2 := Lib.hid hb2; clear hb2))
   go_ret
   exact ⟨HB2.out, rfl⟩
set_option maxHeartbeats 1000000 in
theorem hasNeg_any {w : World} {A : Option Addr} {n c K : Nat} {L : List Rat} (h : Rts w A n c L K) :
 Calls Tryz.prog 136 #[.slice A n c] w fun e w' => Below w.heap.size w w' ∧ e = .returned (.bool (!(nnL L))) := by
 have H := Lib.hid h
 clear h
 go_enter Tryz.func136, Tryz.ntmps136
 go_wp2_with (go_at_call 149; go_loud (refine (contains_neg H.out).mono ?_; rintro e w2 ⟨hb2, rfl⟩; have HB2 := Lib.hid hb2; clear hb2))
 go_ret
 exact ⟨HB2.out, rfl⟩
abbrev ListOut (L : List Rat) (n K : Nat) (w : World) (e : Ending) (w' : World) : Prop := Below w.heap.size w w' ∧ ∃ A c, e = .returned (.slice A n c) ∧ Rts w' A n c L K
set_option maxRecDepth 100000 in
set_option maxHeartbeats 1600000 in
theorem zeros_any (n : Nat) (hn : n ≤ 1000) (w : World) : Calls Tryz.prog 117 #[.int .i64 (n : Int)] w (ListOut (zer n) n 3 w) := by
 have hmk := makeR_run n (by omega)
 go_enter Tryz.func117, Tryz.ntmps117
 go_upto_region 2 with fail
 generalize hW : (World.alloc _ _) = W
 have HB0 : Hid (Below w.heap.size w W) := Lib.hid (by rw [← hW]; exact below_alloc1 _ _)
 have HR0 : Hid (RowR W w.heap.size n (zer n) 3) := Lib.hid (by rw [← hW]; exact rowR_new _ _ _)
 clear hW hmk
 go_wp2
 go_loopw [4, 9] (fun _ v9 wr => ∃ (k : Nat), k ≤ n ∧ v9 = .int .i64 (k : Int) ∧ Below w.heap.size w wr ∧ RowR wr w.heap.size n (zer n) 3) (fun _ v9 _ => n - (intOf v9).toNat)
 case atStart => exact ⟨0, Nat.zero_le _, rfl, HB0.out, HR0.out⟩
 case round =>
  clear HB0 HR0
  obtain ⟨k, hk, rfl, hb, hr⟩ := hrel
  have HB := Lib.hid hb
  have HR := Lib.hid hr
  clear hb hr
  rcases Nat.lt_or_ge k n with hlt | hge
  · have zk : (0 : Int) ≤ (k : Int) := by omega
    have zn : (k : Int) < (n : Int) := by omega
    go_wp2_with (go_at_call 28; go_loud (refine (whole0 _).mono ?_; rintro e w2 ⟨hb2, t1, D1, m1, d1, t2, D2, m2, d2, rfl, hq⟩; have HB2 := Lib.hid (below_to HB.out hb2 HB.out.size); have HR2 := Lib.hid (HR.out.later hb2); have HQ := Lib.hid hq; obtain ⟨⟨u0, u1, u2, u3, v0, v1, v2, v3⟩, f0, f1, f2, f3⟩ := HR2.out.old hlt; clear hb2 hq))
    have hset := HR2.out.set hlt ((HQ.out.wid (show 1 ≤ 3 by omega)).soft)
    rw [show (zer n).set k 0 = zer n from List.set_replicate_self] at hset
    have hbe : Below w.heap.size w ((((w2.setCell ⟨w.heap.size, k * 4, none⟩ (.bool t1)).setCell ⟨w.heap.size, k * 4 + 1, none⟩ (.slice D1 m1 d1)).setCell ⟨w.heap.size, k * 4 + 2, none⟩ (.bool t2)).setCell ⟨w.heap.size, k * 4 + 3, none⟩ (.slice D2 m2 d2)) := (((HB2.out.setCell (Nat.le_refl _) _).setCell (Nat.le_refl _) _).setCell (Nat.le_refl _) _).setCell (Nat.le_refl _) _
    go_roundw
    case rel => exact ⟨k + 1, by omega, by go_num, hbe, hset⟩
    case measure => simp [intOf]; omega
  · obtain rfl : n = k := by omega
    go_wp2
    go_ret
    exact ⟨HB.out, _, _, rfl, HR.out.rts (by omega)⟩
structure MtQ (w : World) (S : List SL) (M : List (List Rat)) (K : Nat) : Prop where
 len : M.length = S.length
 at_ : ∀ (k : Nat) (s : SL) (r : List Rat), S[k]? = some s → M[k]? = some r → Rts w s.B s.m s.e r K
theorem MtQ.later {w w' : World} {S : List SL} {M : List (List Rat)} {K : Nat} (h : MtQ w S M K) (hb : Below w.heap.size w w') : MtQ w' S M K := ⟨h.len, fun k s r h1 h2 => (h.at_ k s r h1 h2).later hb⟩
theorem colL_at {M : List (List Rat)} {k j : Nat} {r : List Rat} {x : Rat} (h : M[k]? = some r) (hx : r[j]? = some x) : (colL M j)[k]? = some x := by
 unfold colL
 rw [List.getElem?_map, h, Option.map_some, List.getD_eq_getElem?_getD, hx]
 rfl
set_option maxRecDepth 100000 in
set_option maxHeartbeats 1600000 in
theorem column_any {w : World} {A : Option Addr} {n c j : Nat} {S : List SL} {M : List (List Rat)} (h : Mt w A n c S) (hq : MtQ w S M 3) (hj : ∀ (k : Nat) (s : SL), S[k]? = some s → j < s.m) (hn : n ≤ 1000) :
 Calls Tryz.prog 139 #[.slice A n c, .int .i64 (j : Int)] w (ListOut (colL M j) n 3 w) := by
 have hcap := h.cap
 have hmax := h.max
 have HL := Lib.hid h.len
 have H := Lib.hid h
 have HM := Lib.hid hq
 have HJ := Lib.hid hj
 clear h hq hj
 have hmk := makeR_run n (by omega)
 go_enter Tryz.func139, Tryz.ntmps139
 go_upto_region 2 with fail
 generalize hW : (World.alloc _ _) = W
 have HB0 : Hid (Below w.heap.size w W) := Lib.hid (by rw [← hW]; exact below_alloc1 _ _)
 have HR0 : Hid (RowR W w.heap.size n (zer n) 3) := Lib.hid (by rw [← hW]; exact rowR_new _ _ _)
 clear hW hmk
 go_wp2
 go_loopw [6, 7, 13] (fun _ _ v13 wr => ∃ (k : Nat) (L : List Rat), k ≤ n ∧ v13 = .int .i64 (k : Int) ∧ Below w.heap.size w wr ∧ RowR wr w.heap.size n L 3 ∧ Hid (∀ i, i < k → L[i]? = (colL M j)[i]?)) (fun _ _ v13 _ => n - (intOf v13).toNat)
 case atStart => exact ⟨0, _, Nat.zero_le _, rfl, HB0.out, HR0.out, Lib.hid fun i hi => absurd hi (Nat.not_lt_zero _)⟩
 case round =>
  clear HB0 HR0
  obtain ⟨k, L, hk, rfl, hb, hr, HT⟩ := hrel
  have HB := Lib.hid hb
  have HR := Lib.hid hr
  clear hb hr
  rcases Nat.lt_or_ge k n with hlt | hge
  · obtain ⟨s, hs⟩ : ∃ s, S[k]? = some s := ⟨S[k]'(by rw [HL.out]; exact hlt), List.getElem?_eq_getElem _⟩
    obtain ⟨r, hr⟩ : ∃ r, M[k]? = some r := ⟨M[k]'(by rw [HM.out.len, HL.out]; exact hlt), List.getElem?_eq_getElem _⟩
    have hrt := HM.out.at_ k s r hs hr
    have hjs := HJ.out k s hs
    obtain ⟨x, hx⟩ : ∃ x, r[j]? = some x := ⟨r[j]'(by rw [hrt.len]; exact hjs), List.getElem?_eq_getElem _⟩
    obtain ⟨b, o, rfl, hbl, hc⟩ := H.out.at_ k s hs
    obtain ⟨b2, o2, s1, A1, n1, c1, s2, A2, n2, c2, e2, hbl2, fa⟩ := hrt.at_ j x hx
    have hcs := hrt.cap
    have hms := hrt.max
    rw [e2] at hc
    have y := (HB.out.cell (p := ⟨b, o + k, none⟩) hbl).trans hc
    have y0 := (HB.out.cell (p := ⟨b2, o2 + j * 4, none⟩) hbl2).trans fa.ha
    have y1 := (HB.out.cell (p := ⟨b2, o2 + j * 4 + 1, none⟩) hbl2).trans fa.hb
    have y2 := (HB.out.cell (p := ⟨b2, o2 + j * 4 + 2, none⟩) hbl2).trans fa.hc
    have y3 := (HB.out.cell (p := ⟨b2, o2 + j * 4 + 3, none⟩) hbl2).trans fa.hd
    have HF := Lib.hid (fa.r.aft HB.out)
    have HN : Hid (∀ i, i < k + 1 → (L.set k x)[i]? = (colL M j)[i]?) := Lib.hid fun i hi => by
     rcases Nat.lt_or_ge i k with h1 | h1
     · rw [List.getElem?_set_ne (by omega)]
       exact HT.out i h1
     · obtain rfl : i = k := by omega
       rw [List.getElem?_set_self (by rw [HR.out.len]; exact hlt), colL_at hr hx]
    clear hs hr hrt hx hc fa HT e2
    have zk : (0 : Int) ≤ (k : Int) := by omega
    have zn : (k : Int) < (n : Int) := by omega
    have zj : (0 : Int) ≤ (j : Int) := by omega
    have zm : (j : Int) < (s.m : Int) := by omega
    obtain ⟨⟨u0, u1, u2, u3, v0, v1, v2, v3⟩, f0, f1, f2, f3⟩ := HR.out.old hlt
    go_wp2
    have hset := HR.out.set hlt HF.out
    have hbe : Below w.heap.size w ((((wr.setCell ⟨w.heap.size, k * 4, none⟩ (.bool s1)).setCell ⟨w.heap.size, k * 4 + 1, none⟩ (.slice A1 n1 c1)).setCell ⟨w.heap.size, k * 4 + 2, none⟩ (.bool s2)).setCell ⟨w.heap.size, k * 4 + 3, none⟩ (.slice A2 n2 c2)) := (((HB.out.setCell (Nat.le_refl _) _).setCell (Nat.le_refl _) _).setCell (Nat.le_refl _) _).setCell (Nat.le_refl _) _
    go_roundw
    case rel => exact ⟨k + 1, _, by omega, by go_num, hbe, hset, HN⟩
    case measure => simp [intOf]; omega
  · obtain rfl : n = k := by omega
    have hend : L = colL M j := List.ext_getElem? fun i => by
     rcases Nat.lt_or_ge i n with h1 | h1
     · exact HT.out i h1
     · rw [List.getElem?_eq_none (by rw [HR.out.len]; exact h1), List.getElem?_eq_none (by unfold colL; rw [List.length_map, HM.out.len, HL.out]; exact h1)]
    subst hend
    go_wp2
    go_ret
    exact ⟨HB.out, _, _, rfl, HR.out.rts (by omega)⟩
end Go.Proofs.YthlfhfkfjefidaaGreat
/- What certificates promise, the program: x stays below, y stays above. -/
namespace Go.Proofs.YthlfhfkfjefidaaGreat
open Go Go.RowKit
theorem times_at {M : List (List Rat)} {X r : List Rat} {j : Nat} (h : M[j]? = some r) : (timesL M X)[j]? = some (dotQ r X) := by
 unfold timesL
 rw [List.getElem?_map, h]
 rfl
theorem bef_at {M : List (List Rat)} {y : List Rat} {j n : Nat} (h : j < n) : (befL y M n)[j]? = some (dotQ y (colL M j)) := by
 unfold befL
 rw [List.getElem?_map, List.getElem?_range h]
 rfl
theorem cmp_le {a b : Rat} (h : a ≤ b) : ∃ C : Int, cmpQ a b = C ∧ ¬ (0 : Int) < C := by
 refine ⟨_, rfl, ?_⟩
 rcases cmpQ_cases a b with ⟨h1, e⟩ | ⟨h1, e⟩ | ⟨h1, e⟩ <;> rw [e] <;> first | omega | (exfalso; grind)
theorem cmp_gt {a b : Rat} (h : ¬ a ≤ b) : ∃ C : Int, cmpQ a b = C ∧ (0 : Int) < C := by
 refine ⟨_, rfl, ?_⟩
 rcases cmpQ_cases a b with ⟨h1, e⟩ | ⟨h1, e⟩ | ⟨h1, e⟩ <;> rw [e] <;> first | omega | (exfalso; grind)
theorem cmp_ge {a b : Rat} (h : b ≤ a) : ∃ C : Int, cmpQ a b = C ∧ ¬ C < (0 : Int) := by
 refine ⟨_, rfl, ?_⟩
 rcases cmpQ_cases a b with ⟨h1, e⟩ | ⟨h1, e⟩ | ⟨h1, e⟩ <;> rw [e] <;> first | omega | (exfalso; grind)
theorem cmp_lt {a b : Rat} (h : ¬ b ≤ a) : ∃ C : Int, cmpQ a b = C ∧ C < (0 : Int) := by
 refine ⟨_, rfl, ?_⟩
 rcases cmpQ_cases a b with ⟨h1, e⟩ | ⟨h1, e⟩ | ⟨h1, e⟩ <;> rw [e] <;> first | omega | (exfalso; grind)
theorem small_dot {n : Nat} (h : n ≤ 4) : n * (n * 4 + 5 + (n * 4 + 5) + 1) + (n * 4 + 1 + (n * 4 + 1)) ≤ 300 := by
 match n, h with
 | 0, _ => decide
 | 1, _ => decide
 | 2, _ => decide
 | 3, _ => decide
 | 4, _ => decide
 | n + 5, h => omega
set_option maxRecDepth 100000 in
set_option maxHeartbeats 4000000 in
theorem staysBelow_any {w : World} {A B C xA lA : Option Addr} {n c m d k e xn xc lc : Nat} {S : List SL} {M : List (List Rat)} {CL X Lm : List Rat} (h : Mt w A n c S) (hq : MtQ w S M 3) (hw : ∀ (i : Nat) (s : SL), S[i]? = some s → s.m = k) (hC : CL.length = k) (hx : Rts w xA xn xc X 3) (hl : Rts w lA n lc Lm 3) (hk : k ≤ 4) :
 Calls Tryz.prog 113 #[.agg #[.slice A n c, .slice B m d, .slice C k e], .slice xA xn xc, .slice lA n lc] w fun e' w' => Below w.heap.size w w' ∧ e' = .returned (.bool (belS M CL X Lm)) := by
 have hcap := h.cap
 have hmax := h.max
 have hlcap := hl.cap
 have hlmax := hl.max
 have HL := Lib.hid h.len
 have HXL := Lib.hid hx.len
 have HH := Lib.hid h
 have HM := Lib.hid hq
 have HW := Lib.hid hw
 have HX := Lib.hid hx
 have HLL := Lib.hid hl
 clear h hq hw hx hl
 obtain ⟨E, hE⟩ : ∃ E, nnL X = E := ⟨_, rfl⟩
 have HE := Lib.hid hE
 go_enter Tryz.func113, Tryz.ntmps113
 go_upto_region 1 with fail
 generalize hW : (World.alloc _ _) = W
 have HB0 : Hid (Below w.heap.size w W) := Lib.hid (by rw [← hW]; exact below_alloc1 _ _)
 have HK0 : Hid (Bk W w.heap.size 60 #[.slice A n c, .slice B m d, .slice C k e]) := Lib.hid (by rw [← hW]; exact Bk.alloc_ _ _ _)
 clear hW
 obtain ⟨x0, x1, x2⟩ := HK0.out.trio
 by_cases q1 : xn = k
 · have HEQ : Hid (belS M CL X Lm = (E && leL (timesL M X) Lm)) := Lib.hid (by
    unfold belS
    rw [decide_eq_true (by rw [HXL.out, hC]; exact q1), hE, Bool.true_and])
   clear hE hC
   have r1 : (xn : Int) = (k : Int) := by omega
   cases E with
   | false =>
     clear q1
     go_wp2_with (go_at_call 136; go_loud (with_reducible refine (hasNeg_any (HX.out.later HB0.out)).mono ?_; rintro e1 w1 ⟨hb1, rfl⟩; rw [HE.out]; have HB1 := Lib.hid (below_to HB0.out hb1 HB0.out.size); clear hb1))
     go_ret
     exact ⟨HB1.out, by rw [HEQ.out]; rfl⟩
   | true =>
     have HQ1 := Lib.hid q1
     clear q1
     go_upto_region 4 with (first
      | (go_at_call 136; go_loud (with_reducible refine (hasNeg_any (HX.out.later HB0.out)).mono ?_; rintro e1 w1 ⟨hb1, rfl⟩; rw [HE.out]; have HB1 := Lib.hid (below_to HB0.out hb1 HB0.out.size); have HK1 := Lib.hid (HK0.out.below hb1 HK0.out.lt); clear hb1))
      | (go_at_call 137; go_loud (with_reducible refine (vectorOf_any (HX.out.later HB1.out) (by have := HQ1.out; omega) (by omega)).mono ?_; rintro e1 w2 ⟨hb2, Av, cv, sv, Bv, mv, ev, NX, dx, rfl, hits, hden, hvec⟩; have HB2 := Lib.hid (below_to HB1.out hb2 HB1.out.size); have HK2 := Lib.hid (HK1.out.below hb2 HK1.out.lt); have HXI2 := Lib.hid hits; have HXD2 := Lib.hid hden; have HXV := Lib.hid hvec; clear hb2 hits hden hvec)))
     obtain ⟨gv, hgv⟩ : ∃ x, w2.heap.size = x := ⟨_, rfl⟩
     generalize hW : (World.alloc _ _) = wv
     have hb3 : Below w2.heap.size w2 wv := by rw [← hW]; exact below_alloc1 _ _
     have HKV : Hid (Bk wv gv 151 #[.slice Av xn cv, .bool sv, .slice Bv mv ev]) := Lib.hid (by rw [← hW]; exact Bk.at_ hgv)
     try rw [hgv]
     clear hW hgv x0 x1 x2
     have HB3 := Lib.hid (below_to HB2.out hb3 HB2.out.size)
     have HK3 := Lib.hid (HK2.out.below hb3 HK2.out.lt)
     have HXI := Lib.hid (HXI2.out.later hb3)
     have HXD := Lib.hid (HXD2.out.later hb3)
     clear hb3
     obtain ⟨x0, x1, x2⟩ := HK3.out.trio
     have HV : Hid (∀ w', Below wv.heap.size wv w' → Bk w' gv 151 #[.slice Av xn cv, .bool sv, .slice Bv mv ev]) := Lib.hid fun w' hb => HKV.out.below hb HKV.out.lt
     go_wp2
     go_loopw [8, 9, 25] (fun _ _ v25 wr => ∃ (j : Nat), j ≤ n ∧ v25 = .int .i64 (j : Int) ∧ Below wv.heap.size wv wr ∧ Hid (∀ (i : Nat) (a b : Rat), i < j → (timesL M X)[i]? = some a → Lm[i]? = some b → a ≤ b)) (fun _ _ v25 _ => n - (intOf v25).toNat)
     case atStart => exact ⟨0, Nat.zero_le _, rfl, Below.refl _ _, Lib.hid fun i a b hi => absurd hi (Nat.not_lt_zero _)⟩
     case round =>
      clear x0 x1 x2
      obtain ⟨j, hj, rfl, hb, HT⟩ := hrel
      have HB := Lib.hid hb
      clear hb
      rcases Nat.lt_or_ge j n with hlt | hge
      · obtain ⟨s, hs⟩ : ∃ s, S[j]? = some s := ⟨S[j]'(by rw [HL.out]; exact hlt), List.getElem?_eq_getElem _⟩
        obtain ⟨r, hr⟩ : ∃ r, M[j]? = some r := ⟨M[j]'(by rw [HM.out.len, HL.out]; exact hlt), List.getElem?_eq_getElem _⟩
        obtain ⟨y, hy⟩ : ∃ y, Lm[j]? = some y := ⟨Lm[j]'(by rw [HLL.out.len]; exact hlt), List.getElem?_eq_getElem _⟩
        have hrt := HM.out.at_ j s r hs hr
        have hsm := HW.out j s hs
        rw [hsm, ← HQ1.out] at hrt
        obtain ⟨b, o, rfl, hbl, hc⟩ := HH.out.at_ j s hs
        rw [hsm, ← HQ1.out] at hc
        obtain ⟨bl, ol, s1, A1, n1, c1, s2, A2, n2, c2, rfl, hbl2, fa⟩ := HLL.out.at_ j y hy
        have hB3 := HB3.out
        have hBA := below_to HB3.out HB.out HB3.out.size
        have y9 := (hBA.cell (p := ⟨b, o + j, none⟩) hbl).trans hc
        have HLM : Hid (∀ w', Below wv.heap.size wv w' → w'.cell? ⟨bl, ol + j * 4, none⟩ = some (.bool s1) ∧ w'.cell? ⟨bl, ol + j * 4 + 1, none⟩ = some (.slice A1 n1 c1) ∧ w'.cell? ⟨bl, ol + j * 4 + 2, none⟩ = some (.bool s2) ∧ w'.cell? ⟨bl, ol + j * 4 + 3, none⟩ = some (.slice A2 n2 c2)) := Lib.hid fun w' hb => by
         have hb5 := below_to hB3 hb hB3.size
         exact ⟨(hb5.cell (p := ⟨bl, ol + j * 4, none⟩) hbl2).trans fa.ha, (hb5.cell (p := ⟨bl, ol + j * 4 + 1, none⟩) hbl2).trans fa.hb, (hb5.cell (p := ⟨bl, ol + j * 4 + 2, none⟩) hbl2).trans fa.hc, (hb5.cell (p := ⟨bl, ol + j * 4 + 3, none⟩) hbl2).trans fa.hd⟩
        have HF := Lib.hid (fa.r.aft hB3)
        have HRW : Hid (∀ w', Below wv.heap.size wv w' → Rts w' s.B xn s.e r 3) := Lib.hid fun w' hb => hrt.later (below_to hB3 hb hB3.size)
        have HTA := Lib.hid (times_at (X := X) hr)
        have HY := Lib.hid hy
        have HSD := Lib.hid (small_dot (n := xn) (by have := HQ1.out; omega))
        have hx8 : xn ≤ 4 := by have := HQ1.out; omega
        clear hs hr hy hrt hsm hc fa hB3 hBA
        have zk : (0 : Int) ≤ (j : Int) := by omega
        have zn : (j : Int) < (n : Int) := by omega
        have HK : Hid (∀ w', Below wv.heap.size wv w' → (fun w' : World => w'.cell? ⟨gv, 0, none⟩ = some (.slice Av xn cv) ∧ w'.cell? ⟨gv, 1, none⟩ = some (.bool sv) ∧ w'.cell? ⟨gv, 2, none⟩ = some (.slice Bv mv ev) ∧ w'.cell? ⟨bl, ol + j * 4, none⟩ = some (.bool s1) ∧ w'.cell? ⟨bl, ol + j * 4 + 1, none⟩ = some (.slice A1 n1 c1) ∧ w'.cell? ⟨bl, ol + j * 4 + 2, none⟩ = some (.bool s2) ∧ w'.cell? ⟨bl, ol + j * 4 + 3, none⟩ = some (.slice A2 n2 c2)) w') := Lib.hid fun w' hb => ⟨(HV.out _ hb).trio.1, (HV.out _ hb).trio.2.1, (HV.out _ hb).trio.2.2, HLM.out _ hb⟩
        by_cases hle : dotQ r X ≤ y
        · obtain ⟨CC, hCC, rC⟩ := cmp_le hle
          have HCC := Lib.hid hCC
          have HLE := Lib.hid hle
          clear hCC hle
          go_upto_region 7 with fail
          have HBd := Lib.hid (Below.drew HB.out)
          have hC := HK.out _ HBd.out
          refine region_goes (n := 10) (fun w' : World => w'.cell? ⟨gv, 0, none⟩ = some (.slice Av xn cv) ∧ w'.cell? ⟨gv, 1, none⟩ = some (.bool sv) ∧ w'.cell? ⟨gv, 2, none⟩ = some (.slice Bv mv ev) ∧ w'.cell? ⟨bl, ol + j * 4, none⟩ = some (.bool s1) ∧ w'.cell? ⟨bl, ol + j * 4 + 1, none⟩ = some (.slice A1 n1 c1) ∧ w'.cell? ⟨bl, ol + j * 4 + 2, none⟩ = some (.bool s2) ∧ w'.cell? ⟨bl, ol + j * 4 + 3, none⟩ = some (.slice A2 n2 c2)) [] (by kernel_rfl) rfl ?_
          refine gt7 0 [] (.slice s.B xn s.e) hC ?_
          refine gt7 2 [] (.agg #[.slice Av xn cv, .bool sv, .slice Bv mv ev]) hC ?_
          refine gt7 4 [] (.slice (some ⟨bl, ol, none⟩) n lc) hC ?_
          refine gt7 5 [] (.int .i64 (j : Int)) hC ?_
          refine gt7 6 [] (.pointer (some ⟨bl, ol + j * 4, none⟩)) hC ?_
          refine gt7 7 [] (.agg #[.bool s1, .slice A1 n1 c1, .bool s2, .slice A2 n2 c2]) hC ?_
          refine gc 1 ?_
          clear hC
          simp only [List.getElem_toArray, List.getElem_cons_succ, List.getElem_cons_zero, Act.put, List.setIfInBounds_toArray, List.set_cons_succ, List.set_cons_zero]
          go_wp2_with (go_at_call 137; go_loud (with_reducible refine (vectorOf_any (HRW.out _ HBd.out) (by omega) (by omega)).mono ?_; rintro e2 wp ⟨hbp, A4, c4, s4, B4, m4, e4, N4, d4, rfl, hits, hden, hvec⟩; have HBp := Lib.hid (below_to HBd.out hbp HBd.out.size); have HI4 := Lib.hid hits; have HD4 := Lib.hid hden; have HV4 := Lib.hid hvec; clear hbp hits hden hvec))
          have hC := HK.out _ HBp.out
          refine behind_ok ⟨hC, ?_⟩
          refine gc 3 ?_
          clear hC
          go_wp2_with (go_at_call 138; go_loud (with_reducible refine (dot_any HI4.out (HXI.out.later HBp.out) HD4.out (HXD.out.later HBp.out) HV4.out.pos HXV.out.pos (by omega) (by omega) (by omega) (by omega) (by omega)).mono ?_; rintro e2 wq ⟨hbq, s5, A5, n5, c5, s6, A6, n6, c6, rfl, hr⟩; rw [HV4.out.dot HXV.out] at hr; have HBq := Lib.hid (below_to HBp.out hbq HBp.out.size); have HQ := Lib.hid hr; clear hbq hr))
          have hC := HK.out _ HBq.out
          refine behind_ok ⟨hC, ?_⟩
          refine gc 8 ?_
          clear hC
          go_wp2_with (go_at_call 40; go_loud (with_reducible refine (cmpRH HQ.out HF.out (Below.refl _ _) HBq.out (HSD.out) (by omega) HCC.out).mono ?_; rintro e2 ws ⟨hbs, rfl⟩; have HBs := Lib.hid (below_to HBq.out hbs HBq.out.size); clear hbs))
          have hC := HK.out _ HBs.out
          refine behind_ok ⟨hC, ?_⟩
          refine gt7 9 [] (.bool false) hC ?_
          refine goes_done (by kernel_rfl) ?_
          simp only [List.getElem_toArray, List.getElem_cons_succ, List.getElem_cons_zero, Act.put, List.setIfInBounds_toArray, List.set_cons_succ, List.set_cons_zero]
          go_wp2
          go_roundw
          case rel => exact ⟨j + 1, by omega, by go_num, HBs.out, Lib.hid fun i a b2 hi ha hb2 => by
           rcases Nat.lt_or_ge i j with h1 | h1
           · exact HT.out i a b2 h1 ha hb2
           · obtain rfl : i = j := by omega
             rw [HTA.out] at ha
             rw [HY.out] at hb2
             obtain rfl := Option.some.inj ha
             obtain rfl := Option.some.inj hb2
             exact HLE.out⟩
          case measure => simp [intOf]; omega
        · obtain ⟨CC, hCC, rC⟩ := cmp_gt hle
          have HCC := Lib.hid hCC
          have HNO := Lib.hid (leL_no HTA.out HY.out hle)
          clear hCC hle
          go_upto_region 7 with fail
          have HBd := Lib.hid (Below.drew HB.out)
          have hC := HK.out _ HBd.out
          refine region_goes (n := 10) (fun w' : World => w'.cell? ⟨gv, 0, none⟩ = some (.slice Av xn cv) ∧ w'.cell? ⟨gv, 1, none⟩ = some (.bool sv) ∧ w'.cell? ⟨gv, 2, none⟩ = some (.slice Bv mv ev) ∧ w'.cell? ⟨bl, ol + j * 4, none⟩ = some (.bool s1) ∧ w'.cell? ⟨bl, ol + j * 4 + 1, none⟩ = some (.slice A1 n1 c1) ∧ w'.cell? ⟨bl, ol + j * 4 + 2, none⟩ = some (.bool s2) ∧ w'.cell? ⟨bl, ol + j * 4 + 3, none⟩ = some (.slice A2 n2 c2)) [] (by kernel_rfl) rfl ?_
          refine gt7 0 [] (.slice s.B xn s.e) hC ?_
          refine gt7 2 [] (.agg #[.slice Av xn cv, .bool sv, .slice Bv mv ev]) hC ?_
          refine gt7 4 [] (.slice (some ⟨bl, ol, none⟩) n lc) hC ?_
          refine gt7 5 [] (.int .i64 (j : Int)) hC ?_
          refine gt7 6 [] (.pointer (some ⟨bl, ol + j * 4, none⟩)) hC ?_
          refine gt7 7 [] (.agg #[.bool s1, .slice A1 n1 c1, .bool s2, .slice A2 n2 c2]) hC ?_
          refine gc 1 ?_
          clear hC
          simp only [List.getElem_toArray, List.getElem_cons_succ, List.getElem_cons_zero, Act.put, List.setIfInBounds_toArray, List.set_cons_succ, List.set_cons_zero]
          go_wp2_with (go_at_call 137; go_loud (with_reducible refine (vectorOf_any (HRW.out _ HBd.out) (by omega) (by omega)).mono ?_; rintro e2 wp ⟨hbp, A4, c4, s4, B4, m4, e4, N4, d4, rfl, hits, hden, hvec⟩; have HBp := Lib.hid (below_to HBd.out hbp HBd.out.size); have HI4 := Lib.hid hits; have HD4 := Lib.hid hden; have HV4 := Lib.hid hvec; clear hbp hits hden hvec))
          have hC := HK.out _ HBp.out
          refine behind_ok ⟨hC, ?_⟩
          refine gc 3 ?_
          clear hC
          go_wp2_with (go_at_call 138; go_loud (with_reducible refine (dot_any HI4.out (HXI.out.later HBp.out) HD4.out (HXD.out.later HBp.out) HV4.out.pos HXV.out.pos (by omega) (by omega) (by omega) (by omega) (by omega)).mono ?_; rintro e2 wq ⟨hbq, s5, A5, n5, c5, s6, A6, n6, c6, rfl, hr⟩; rw [HV4.out.dot HXV.out] at hr; have HBq := Lib.hid (below_to HBp.out hbq HBp.out.size); have HQ := Lib.hid hr; clear hbq hr))
          have hC := HK.out _ HBq.out
          refine behind_ok ⟨hC, ?_⟩
          refine gc 8 ?_
          clear hC
          go_wp2_with (go_at_call 40; go_loud (with_reducible refine (cmpRH HQ.out HF.out (Below.refl _ _) HBq.out (HSD.out) (by omega) HCC.out).mono ?_; rintro e2 ws ⟨hbs, rfl⟩; have HBs := Lib.hid (below_to HBq.out hbs HBq.out.size); clear hbs))
          have hC := HK.out _ HBs.out
          refine behind_ok ⟨hC, ?_⟩
          refine gt7 9 [] (.bool true) hC ?_
          refine goes_done (by kernel_rfl) ?_
          simp only [List.getElem_toArray, List.getElem_cons_succ, List.getElem_cons_zero, Act.put, List.setIfInBounds_toArray, List.set_cons_succ, List.set_cons_zero]
          go_wp2
          go_ret
          exact ⟨below_to HB3.out HBs.out HB3.out.size, by rw [HEQ.out, HNO.out]; rfl⟩
      · obtain rfl : n = j := by omega
        have HOK : Hid (leL (timesL M X) Lm = true) := Lib.hid (leL_of fun i a b ha hb => HT.out i a b (by rw [← HLL.out.len]; exact (List.getElem?_eq_some_iff.1 hb).1) ha hb)
        go_wp2
        go_ret
        exact ⟨below_to HB3.out HB.out HB3.out.size, by rw [HEQ.out, HOK.out]; rfl⟩
 · have HR : Hid (belS M CL X Lm = false) := Lib.hid (by
    unfold belS
    rw [decide_eq_false (by rw [HXL.out, hC]; exact q1), Bool.false_and])
   have r1 : ¬ ((xn : Int) = (k : Int)) := by omega
   clear hE
   go_wp2
   go_ret
   exact ⟨HB0.out, by rw [HR.out]; rfl⟩
end Go.Proofs.YthlfhfkfjefidaaGreat
/- What certificates promise, the program: y stays above. -/
namespace Go.Proofs.YthlfhfkfjefidaaGreat
open Go Go.RowKit
set_option maxRecDepth 100000 in
set_option maxHeartbeats 4000000 in
theorem staysAbove_any {w : World} {A B C xA lA : Option Addr} {n c m d k e xn xc lc : Nat} {S : List SL} {M : List (List Rat)} {BL X Lm : List Rat} (h : Mt w A n c S) (hq : MtQ w S M 3) (hw : ∀ (i : Nat) (s : SL), S[i]? = some s → s.m = k) (hm : m = n) (hB : BL.length = m) (hx : Rts w xA xn xc X 3) (hl : Rts w lA k lc Lm 3) (hn : n ≤ 4) :
 Calls Tryz.prog 114 #[.agg #[.slice A n c, .slice B m d, .slice C k e], .slice xA xn xc, .slice lA k lc] w fun e' w' => Below w.heap.size w w' ∧ e' = .returned (.bool (aboS M BL X Lm)) := by
 have hcap := h.cap
 have hmax := h.max
 have hlcap := hl.cap
 have hlmax := hl.max
 have HXL := Lib.hid hx.len
 have HH := Lib.hid h
 have HM := Lib.hid hq
 have HW := Lib.hid hw
 have HX := Lib.hid hx
 have HLL := Lib.hid hl
 have HMN := Lib.hid hm
 clear h hq hw hx hl hm
 obtain ⟨E, hE⟩ : ∃ E, nnL X = E := ⟨_, rfl⟩
 have HE := Lib.hid hE
 go_enter Tryz.func114, Tryz.ntmps114
 go_upto_region 1 with fail
 generalize hW : (World.alloc _ _) = W
 have HB0 : Hid (Below w.heap.size w W) := Lib.hid (by rw [← hW]; exact below_alloc1 _ _)
 have HK0 : Hid (Bk W w.heap.size 60 #[.slice A n c, .slice B m d, .slice C k e]) := Lib.hid (by rw [← hW]; exact Bk.alloc_ _ _ _)
 clear hW
 obtain ⟨x0, x1, x2⟩ := HK0.out.trio
 by_cases q1 : xn = m
 · have HEQ : Hid (aboS M BL X Lm = (E && leL Lm (befL X M k))) := Lib.hid (by
    unfold aboS
    rw [decide_eq_true (by rw [HXL.out, hB]; exact q1), hE, Bool.true_and, HLL.out.len])
   clear hE hB
   have r1 : (xn : Int) = (m : Int) := by omega
   have HQ1 : Hid (xn = n) := Lib.hid (q1.trans HMN.out)
   clear q1
   cases E with
   | false =>
     go_wp2_with (go_at_call 136; go_loud (with_reducible refine (hasNeg_any (HX.out.later HB0.out)).mono ?_; rintro e1 w1 ⟨hb1, rfl⟩; rw [HE.out]; have HB1 := Lib.hid (below_to HB0.out hb1 HB0.out.size); clear hb1))
     go_ret
     exact ⟨HB1.out, by rw [HEQ.out]; rfl⟩
   | true =>
     go_upto_region 4 with (first
      | (go_at_call 136; go_loud (with_reducible refine (hasNeg_any (HX.out.later HB0.out)).mono ?_; rintro e1 w1 ⟨hb1, rfl⟩; rw [HE.out]; have HB1 := Lib.hid (below_to HB0.out hb1 HB0.out.size); have HK1 := Lib.hid (HK0.out.below hb1 HK0.out.lt); clear hb1))
      | (go_at_call 137; go_loud (with_reducible refine (vectorOf_any (HX.out.later HB1.out) (by have := HQ1.out; omega) (by omega)).mono ?_; rintro e1 w2 ⟨hb2, Av, cv, sv, Bv, mv, ev, NX, dx, rfl, hits, hden, hvec⟩; have HB2 := Lib.hid (below_to HB1.out hb2 HB1.out.size); have HK2 := Lib.hid (HK1.out.below hb2 HK1.out.lt); have HXI2 := Lib.hid hits; have HXD2 := Lib.hid hden; have HXV := Lib.hid hvec; clear hb2 hits hden hvec)))
     obtain ⟨gv, hgv⟩ : ∃ x, w2.heap.size = x := ⟨_, rfl⟩
     generalize hW : (World.alloc _ _) = wv
     have hb3 : Below w2.heap.size w2 wv := by rw [← hW]; exact below_alloc1 _ _
     have HKV : Hid (Bk wv gv 151 #[.slice Av xn cv, .bool sv, .slice Bv mv ev]) := Lib.hid (by rw [← hW]; exact Bk.at_ hgv)
     try rw [hgv]
     clear hW hgv x0 x1 x2
     have HB3 := Lib.hid (below_to HB2.out hb3 HB2.out.size)
     have HK3 := Lib.hid (HK2.out.below hb3 HK2.out.lt)
     have HXI := Lib.hid (HXI2.out.later hb3)
     have HXD := Lib.hid (HXD2.out.later hb3)
     clear hb3
     obtain ⟨x0, x1, x2⟩ := HK3.out.trio
     have HV : Hid (∀ w', Below wv.heap.size wv w' → Bk w' gv 151 #[.slice Av xn cv, .bool sv, .slice Bv mv ev]) := Lib.hid fun w' hb => HKV.out.below hb HKV.out.lt
     have hxn : n = xn := HQ1.out.symm
     subst hxn
     have HPR : Hid (∀ w', Below wv.heap.size wv w' → Bk w' w.heap.size 60 #[.slice A n c, .slice B m d, .slice C k e]) := Lib.hid fun w' hb => HK3.out.below hb HK3.out.lt
     have HHW : Hid (∀ w', Below wv.heap.size wv w' → Mt w' A n c S) := Lib.hid fun w' hb => (HH.out.later HB3.out).later hb
     have HMW : Hid (∀ w', Below wv.heap.size wv w' → MtQ w' S M 3) := Lib.hid fun w' hb => (HM.out.later HB3.out).later hb
     go_wp2
     go_loopw [8, 24] (fun _ v24 wr => ∃ (j : Nat), j ≤ k ∧ v24 = .int .i64 (j : Int) ∧ Below wv.heap.size wv wr ∧ Hid (∀ (i : Nat) (a b : Rat), i < j → Lm[i]? = some a → (befL X M k)[i]? = some b → a ≤ b)) (fun _ v24 _ => k - (intOf v24).toNat)
     case atStart => exact ⟨0, Nat.zero_le _, rfl, Below.refl _ _, Lib.hid fun i a b hi => absurd hi (Nat.not_lt_zero _)⟩
     case round =>
      clear x0 x1 x2
      obtain ⟨j, hj, rfl, hb, HT⟩ := hrel
      have HB := Lib.hid hb
      clear hb
      rcases Nat.lt_or_ge j k with hlt | hge
      · obtain ⟨y, hy⟩ : ∃ y, Lm[j]? = some y := ⟨Lm[j]'(by rw [HLL.out.len]; exact hlt), List.getElem?_eq_getElem _⟩
        obtain ⟨bl, ol, s1, A1, n1, c1, s2, A2, n2, c2, rfl, hbl2, fa⟩ := HLL.out.at_ j y hy
        have hB3 := HB3.out
        have HLM : Hid (∀ w', Below wv.heap.size wv w' → w'.cell? ⟨bl, ol + j * 4, none⟩ = some (.bool s1) ∧ w'.cell? ⟨bl, ol + j * 4 + 1, none⟩ = some (.slice A1 n1 c1) ∧ w'.cell? ⟨bl, ol + j * 4 + 2, none⟩ = some (.bool s2) ∧ w'.cell? ⟨bl, ol + j * 4 + 3, none⟩ = some (.slice A2 n2 c2)) := Lib.hid fun w' hb => by
         have hb5 := below_to hB3 hb hB3.size
         exact ⟨(hb5.cell (p := ⟨bl, ol + j * 4, none⟩) hbl2).trans fa.ha, (hb5.cell (p := ⟨bl, ol + j * 4 + 1, none⟩) hbl2).trans fa.hb, (hb5.cell (p := ⟨bl, ol + j * 4 + 2, none⟩) hbl2).trans fa.hc, (hb5.cell (p := ⟨bl, ol + j * 4 + 3, none⟩) hbl2).trans fa.hd⟩
        have HF := Lib.hid (fa.r.aft hB3)
        have HTA := Lib.hid (bef_at (M := M) (y := X) hlt)
        have HY := Lib.hid hy
        have HSD := Lib.hid (small_dot hn)
        have hx8 : n ≤ 4 := hn
        have HJM : Hid (∀ (i : Nat) (s : SL), S[i]? = some s → j < s.m) := Lib.hid fun i s hs => by rw [HW.out i s hs]; exact hlt
        clear hy fa hB3
        have zk : (0 : Int) ≤ (j : Int) := by omega
        have zn : (j : Int) < (k : Int) := by omega
        have HK : Hid (∀ w', Below wv.heap.size wv w' → (fun w' : World => w'.cell? ⟨gv, 0, none⟩ = some (.slice Av n cv) ∧ w'.cell? ⟨gv, 1, none⟩ = some (.bool sv) ∧ w'.cell? ⟨gv, 2, none⟩ = some (.slice Bv mv ev) ∧ w'.cell? ⟨bl, ol + j * 4, none⟩ = some (.bool s1) ∧ w'.cell? ⟨bl, ol + j * 4 + 1, none⟩ = some (.slice A1 n1 c1) ∧ w'.cell? ⟨bl, ol + j * 4 + 2, none⟩ = some (.bool s2) ∧ w'.cell? ⟨bl, ol + j * 4 + 3, none⟩ = some (.slice A2 n2 c2) ∧ w'.cell? ⟨w.heap.size, 0, none⟩ = some (.slice A n c)) w') := Lib.hid fun w' hb => ⟨(HV.out _ hb).trio.1, (HV.out _ hb).trio.2.1, (HV.out _ hb).trio.2.2, (HLM.out _ hb).1, (HLM.out _ hb).2.1, (HLM.out _ hb).2.2.1, (HLM.out _ hb).2.2.2, (HPR.out _ hb).trio.1⟩
        by_cases hle : y ≤ dotQ X (colL M j)
        · obtain ⟨CC, hCC, rC⟩ := cmp_ge hle
          rw [dotQ_comm] at hCC
          have HCC := Lib.hid hCC
          have HLE := Lib.hid hle
          clear hCC hle
          go_upto_region 7 with fail
          have HBd := Lib.hid (Below.drew HB.out)
          have hC := HK.out _ HBd.out
          refine region_goes (n := 13) (fun w' : World => w'.cell? ⟨gv, 0, none⟩ = some (.slice Av n cv) ∧ w'.cell? ⟨gv, 1, none⟩ = some (.bool sv) ∧ w'.cell? ⟨gv, 2, none⟩ = some (.slice Bv mv ev) ∧ w'.cell? ⟨bl, ol + j * 4, none⟩ = some (.bool s1) ∧ w'.cell? ⟨bl, ol + j * 4 + 1, none⟩ = some (.slice A1 n1 c1) ∧ w'.cell? ⟨bl, ol + j * 4 + 2, none⟩ = some (.bool s2) ∧ w'.cell? ⟨bl, ol + j * 4 + 3, none⟩ = some (.slice A2 n2 c2) ∧ w'.cell? ⟨w.heap.size, 0, none⟩ = some (.slice A n c)) [] (by kernel_rfl) rfl ?_
          refine gt8 0 [] (.pointer (some ⟨w.heap.size, 0, none⟩)) hC ?_
          refine gt8 1 [] (.slice A n c) hC ?_
          refine gt8 2 [] (.int .i64 (j : Int)) hC ?_
          refine gt8 5 [] (.agg #[.slice Av n cv, .bool sv, .slice Bv mv ev]) hC ?_
          refine gt8 7 [] (.slice (some ⟨bl, ol, none⟩) k lc) hC ?_
          refine gt8 8 [] (.int .i64 (j : Int)) hC ?_
          refine gt8 9 [] (.pointer (some ⟨bl, ol + j * 4, none⟩)) hC ?_
          refine gt8 10 [] (.agg #[.bool s1, .slice A1 n1 c1, .bool s2, .slice A2 n2 c2]) hC ?_
          refine gc 3 ?_
          clear hC
          simp only [List.getElem_toArray, List.getElem_cons_succ, List.getElem_cons_zero, Act.put, List.setIfInBounds_toArray, List.set_cons_succ, List.set_cons_zero]
          go_wp2_with (go_at_call 139; go_loud (with_reducible refine (column_any (HHW.out _ HBd.out) (HMW.out _ HBd.out) HJM.out (by omega)).mono ?_; rintro e2 wo ⟨hbo, Ac, cc, rfl, hrow⟩; have HBo := Lib.hid (below_to HBd.out hbo HBd.out.size); have HROW := Lib.hid hrow; clear hbo hrow))
          have hC := HK.out _ HBo.out
          refine behind_ok ⟨hC, ?_⟩
          refine gc 4 ?_
          clear hC
          go_wp2_with (go_at_call 137; go_loud (with_reducible refine (vectorOf_any HROW.out (by omega) (by omega)).mono ?_; rintro e2 wp ⟨hbp, A4, c4, s4, B4, m4, e4, N4, d4, rfl, hits, hden, hvec⟩; have HBp := Lib.hid (below_to HBo.out hbp HBo.out.size); have HI4 := Lib.hid hits; have HD4 := Lib.hid hden; have HV4 := Lib.hid hvec; clear hbp hits hden hvec))
          have hC := HK.out _ HBp.out
          refine behind_ok ⟨hC, ?_⟩
          refine gc 6 ?_
          clear hC
          go_wp2_with (go_at_call 138; go_loud (with_reducible refine (dot_any HI4.out (HXI.out.later HBp.out) HD4.out (HXD.out.later HBp.out) HV4.out.pos HXV.out.pos (by omega) (by omega) (by omega) (by omega) (by omega)).mono ?_; rintro e2 wq ⟨hbq, s5, A5, n5, c5, s6, A6, n6, c6, rfl, hr⟩; rw [HV4.out.dot HXV.out] at hr; have HBq := Lib.hid (below_to HBp.out hbq HBp.out.size); have HQ := Lib.hid hr; clear hbq hr))
          have hC := HK.out _ HBq.out
          refine behind_ok ⟨hC, ?_⟩
          refine gc 11 ?_
          clear hC
          go_wp2_with (go_at_call 40; go_loud (with_reducible refine (cmpRH HQ.out HF.out (Below.refl _ _) HBq.out (HSD.out) (by omega) HCC.out).mono ?_; rintro e2 ws ⟨hbs, rfl⟩; have HBs := Lib.hid (below_to HBq.out hbs HBq.out.size); clear hbs))
          have hC := HK.out _ HBs.out
          refine behind_ok ⟨hC, ?_⟩
          refine gt8 12 [] (.bool false) hC ?_
          refine goes_done (by kernel_rfl) ?_
          simp only [List.getElem_toArray, List.getElem_cons_succ, List.getElem_cons_zero, Act.put, List.setIfInBounds_toArray, List.set_cons_succ, List.set_cons_zero]
          go_wp2
          go_roundw
          case rel => exact ⟨j + 1, by omega, by go_num, HBs.out, Lib.hid fun i a b2 hi ha hb2 => by
           rcases Nat.lt_or_ge i j with h1 | h1
           · exact HT.out i a b2 h1 ha hb2
           · obtain rfl : i = j := by omega
             rw [HTA.out] at hb2
             rw [HY.out] at ha
             obtain rfl := Option.some.inj ha
             obtain rfl := Option.some.inj hb2
             exact HLE.out⟩
          case measure => simp [intOf]; omega
        · obtain ⟨CC, hCC, rC⟩ := cmp_lt hle
          rw [dotQ_comm] at hCC
          have HCC := Lib.hid hCC
          have HNO := Lib.hid (leL_no HY.out HTA.out hle)
          clear hCC hle
          go_upto_region 7 with fail
          have HBd := Lib.hid (Below.drew HB.out)
          have hC := HK.out _ HBd.out
          refine region_goes (n := 13) (fun w' : World => w'.cell? ⟨gv, 0, none⟩ = some (.slice Av n cv) ∧ w'.cell? ⟨gv, 1, none⟩ = some (.bool sv) ∧ w'.cell? ⟨gv, 2, none⟩ = some (.slice Bv mv ev) ∧ w'.cell? ⟨bl, ol + j * 4, none⟩ = some (.bool s1) ∧ w'.cell? ⟨bl, ol + j * 4 + 1, none⟩ = some (.slice A1 n1 c1) ∧ w'.cell? ⟨bl, ol + j * 4 + 2, none⟩ = some (.bool s2) ∧ w'.cell? ⟨bl, ol + j * 4 + 3, none⟩ = some (.slice A2 n2 c2) ∧ w'.cell? ⟨w.heap.size, 0, none⟩ = some (.slice A n c)) [] (by kernel_rfl) rfl ?_
          refine gt8 0 [] (.pointer (some ⟨w.heap.size, 0, none⟩)) hC ?_
          refine gt8 1 [] (.slice A n c) hC ?_
          refine gt8 2 [] (.int .i64 (j : Int)) hC ?_
          refine gt8 5 [] (.agg #[.slice Av n cv, .bool sv, .slice Bv mv ev]) hC ?_
          refine gt8 7 [] (.slice (some ⟨bl, ol, none⟩) k lc) hC ?_
          refine gt8 8 [] (.int .i64 (j : Int)) hC ?_
          refine gt8 9 [] (.pointer (some ⟨bl, ol + j * 4, none⟩)) hC ?_
          refine gt8 10 [] (.agg #[.bool s1, .slice A1 n1 c1, .bool s2, .slice A2 n2 c2]) hC ?_
          refine gc 3 ?_
          clear hC
          simp only [List.getElem_toArray, List.getElem_cons_succ, List.getElem_cons_zero, Act.put, List.setIfInBounds_toArray, List.set_cons_succ, List.set_cons_zero]
          go_wp2_with (go_at_call 139; go_loud (with_reducible refine (column_any (HHW.out _ HBd.out) (HMW.out _ HBd.out) HJM.out (by omega)).mono ?_; rintro e2 wo ⟨hbo, Ac, cc, rfl, hrow⟩; have HBo := Lib.hid (below_to HBd.out hbo HBd.out.size); have HROW := Lib.hid hrow; clear hbo hrow))
          have hC := HK.out _ HBo.out
          refine behind_ok ⟨hC, ?_⟩
          refine gc 4 ?_
          clear hC
          go_wp2_with (go_at_call 137; go_loud (with_reducible refine (vectorOf_any HROW.out (by omega) (by omega)).mono ?_; rintro e2 wp ⟨hbp, A4, c4, s4, B4, m4, e4, N4, d4, rfl, hits, hden, hvec⟩; have HBp := Lib.hid (below_to HBo.out hbp HBo.out.size); have HI4 := Lib.hid hits; have HD4 := Lib.hid hden; have HV4 := Lib.hid hvec; clear hbp hits hden hvec))
          have hC := HK.out _ HBp.out
          refine behind_ok ⟨hC, ?_⟩
          refine gc 6 ?_
          clear hC
          go_wp2_with (go_at_call 138; go_loud (with_reducible refine (dot_any HI4.out (HXI.out.later HBp.out) HD4.out (HXD.out.later HBp.out) HV4.out.pos HXV.out.pos (by omega) (by omega) (by omega) (by omega) (by omega)).mono ?_; rintro e2 wq ⟨hbq, s5, A5, n5, c5, s6, A6, n6, c6, rfl, hr⟩; rw [HV4.out.dot HXV.out] at hr; have HBq := Lib.hid (below_to HBp.out hbq HBp.out.size); have HQ := Lib.hid hr; clear hbq hr))
          have hC := HK.out _ HBq.out
          refine behind_ok ⟨hC, ?_⟩
          refine gc 11 ?_
          clear hC
          go_wp2_with (go_at_call 40; go_loud (with_reducible refine (cmpRH HQ.out HF.out (Below.refl _ _) HBq.out (HSD.out) (by omega) HCC.out).mono ?_; rintro e2 ws ⟨hbs, rfl⟩; have HBs := Lib.hid (below_to HBq.out hbs HBq.out.size); clear hbs))
          have hC := HK.out _ HBs.out
          refine behind_ok ⟨hC, ?_⟩
          refine gt8 12 [] (.bool true) hC ?_
          refine goes_done (by kernel_rfl) ?_
          simp only [List.getElem_toArray, List.getElem_cons_succ, List.getElem_cons_zero, Act.put, List.setIfInBounds_toArray, List.set_cons_succ, List.set_cons_zero]
          go_wp2
          go_ret
          exact ⟨below_to HB3.out HBs.out HB3.out.size, by rw [HEQ.out, HNO.out]; rfl⟩
      · obtain rfl : k = j := by omega
        have HOK : Hid (leL Lm (befL X M k) = true) := Lib.hid (leL_of fun i a b ha hb => HT.out i a b (by rw [← HLL.out.len]; exact (List.getElem?_eq_some_iff.1 ha).1) ha hb)
        go_wp2
        go_ret
        exact ⟨below_to HB3.out HB.out HB3.out.size, by rw [HEQ.out, HOK.out]; rfl⟩
 · have HR : Hid (aboS M BL X Lm = false) := Lib.hid (by
    unfold aboS
    rw [decide_eq_false (by rw [HXL.out, hB]; exact q1), Bool.false_and])
   have r1 : ¬ ((xn : Int) = (m : Int)) := by omega
   clear hE
   go_wp2
   go_ret
   exact ⟨HB0.out, by rw [HR.out]; rfl⟩
end Go.Proofs.YthlfhfkfjefidaaGreat
