/- The walk of divide where the divisor has several limbs. -/
import Derived.Test.YtfnibkodccfocaaGreatKnuthA
namespace Go.Proofs.YtfnibkodccfocaaGreat
open Go.RowKit

theorem takeOff_m (g off c m d gv : Nat) (O V : List Nat) (w : World) (hO0 : Buf w g 75 O) (hoff : off + m + 1 ≤ O.length) (hb0 : Buf w gv 75 V) (hne : gv ≠ g) (hm2 : 2 ≤ m) (hmV : m ≤ V.length) (hcm : m + 1 ≤ c) (hmd : m ≤ d) (hm : m ≤ 1073741820)
    (htop : 0 < V.getD (m - 1) 0) (hUV : val ((O.drop off).take (m + 1)) < val (V.take m) * 4294967296) :
    Calls Tryz.prog 120 #[.slice (some ⟨g, off, none⟩) (m + 1) c, .slice (some ⟨gv, 0, none⟩) m d] w (TakeR g off m O (V.take m) w) := by
  obtain ⟨k, rfl⟩ : ∃ k, m = k + 2 := ⟨m - 2, by omega⟩
  exact takeOff_any g off c k d gv O V w hO0 hoff hb0 hne hmV hcm hmd (by omega) htop hUV

theorem sl_drop_take {R T : List Nat} {i m : Nat} (h : i + m ≤ R.length) : ((R ++ T).drop i).take m = (R.drop i).take m := by
  rw [List.drop_append_of_le_length (by omega), List.take_append_of_le_length (by rw [List.length_drop]; omega)]
theorem sl_splice {R T P : List Nat} {i m : Nat} (h : i + m ≤ R.length) : (R ++ T).take i ++ P ++ (R ++ T).drop (i + m) = (R.take i ++ P ++ R.drop (i + m)) ++ T := by
  rw [List.take_append_of_le_length (by omega), List.drop_append_of_le_length h, List.append_assoc, List.append_assoc, List.append_assoc]

theorem long_init {a b X : List Nat} {n m s : Nat} (ha : Bd a) (hal : a.length = n) (nb : Norm b) (hbl : b.length = m) (hm : 1 ≤ m) (hmn : m ≤ n) (hX : X.length = n + 1) (hXv : val X = val a * 2 ^ s) : val (X.drop (n - m + 1)) < val b * 2 ^ s := by
  have h1 := val_take_drop X (n - m + 1) (by omega)
  have h2 := val_lt ha
  have hbne : b ≠ [] := by rintro rfl; simp at hbl; omega
  have h3 := norm_pos nb hbne
  rw [hal] at h2
  rw [hbl] at h3
  rcases Nat.lt_or_ge (val (X.drop (n - m + 1))) (val b * 2 ^ s) with h | h
  · exact h
  · exfalso
    have h4 : W (m - 1) * 2 ^ s ≤ val (X.drop (n - m + 1)) := Nat.le_trans (Nat.mul_le_mul_right _ h3) h
    have h5 : W (n - m + 1) * (W (m - 1) * 2 ^ s) ≤ W (n - m + 1) * val (X.drop (n - m + 1)) := Nat.mul_le_mul_left _ h4
    rw [← Nat.mul_assoc, ← W_add, show n - m + 1 + (m - 1) = n from by omega] at h5
    have h6 : W n * 2 ^ s ≤ val a * 2 ^ s := by rw [← hXv]; omega
    have h7 := Nat.le_of_mul_le_mul_right h6 (Nat.two_pow_pos s)
    omega

set_option maxRecDepth 100000 in
set_option maxHeartbeats 8000000 in
theorem divide_knuth (gd base n c m c2 : Nat) (A A2 : Option Addr) (a b : List Nat) (vq vr vb : Value) (lq lr lb : List Nat) (w : World) (hD : DivS w gd base vq vr vb lq lr lb) (hbase : base ≤ w.heap.size)
    (ha : Lim w w.heap.size A n c a) (hoff : 0 < n → Off A (DS gd vq vr vb)) (na : Norm a) (hb : Lim w w.heap.size A2 m c2 b) (hoff2 : 0 < m → Off A2 (DS gd vq vr vb)) (nb : Norm b) (hm2 : 2 ≤ m) (hle : val b ≤ val a) (hn : n ≤ 536870912) :
    Calls Tryz.prog 97 #[.pointer (some ⟨gd, 0, none⟩), .slice A n c, .slice A2 m c2] w (DivR gd base vq vr vb (val a / val b) (val a % val b) w) := by
  have hal := ha.len
  have hbl := hb.len
  have hmn : m ≤ n := by
    rcases Nat.lt_or_ge n m with h | h
    · have := norm_len_lt ha.bd nb (by omega); omega
    · exact h
  obtain ⟨b0, o0, t, hAe, hb0, ht, htb, hct⟩ := hb.at_ (k := m - 1) (by omega)
  have htp : 0 < t := by
    rcases Nat.eq_zero_or_pos t with h | h
    · exfalso
      apply nb
      rw [List.getLast?_eq_getElem?, hbl, ht, h]
    · exact h
  have hcmp := compareLimbs_any A A2 n c m c2 a b w.heap.size w.heap.size w ha hb na nb
  have hge : decide (cmpN (val a) (val b) < 0) = false := by
    rcases Nat.eq_or_lt_of_le hle with h | h
    · rw [h, cmpN_self]; rfl
    · rw [cmpN_gt h]; rfl
  generalize cmpN (val a) (val b) = C at hcmp hge
  have hm1 : ((m : Int) == 1) = false := by simp; omega
  obtain ⟨Aq, cq, hvq⟩ := hD.q.form
  obtain ⟨Ar, cr, hvr⟩ := hD.r.form
  obtain ⟨Ab, cb, hvb⟩ := hD.b.form
  generalize lq.length = nq at hvq
  generalize lr.length = nr at hvr
  generalize lb.length = nb' at hvb
  have d2 := hD.bk.cell 2
  simp only [List.getElem?_toArray, List.getElem?_cons_zero, List.getElem?_cons_succ, hvb] at d2
  have f2 := hD.bk.frozen 2
  have hm0 : (m : Int) - 1 = ((m - 1 : Nat) : Int) := by omega
  have HAL := Lib.hid hal
  have HBL := Lib.hid hbl
  have HCMP := Lib.hid hcmp
  have HD := Lib.hid hD
  have HVQ := Lib.hid hvq
  have HVR := Lib.hid hvr
  have HVB := Lib.hid hvb
  have HOFF := Lib.hid hoff
  have HOFF2 := Lib.hid hoff2
  have HT := Lib.hid ht
  have hgdlt := hD.bk.lt
  subst hAe
  clear hcmp hD hvq hvr hvb hoff hoff2 ht hal hbl
  go_enter Tryz.func97, Tryz.ntmps97
  go_wp2_with fail
  refine HCMP.out.mono ?_
  rintro e w' ⟨rfl, k, rfl⟩
  go_wp2_with fail
  refine (lz_any t _ htp htb).mono ?_
  rintro e w' ⟨rfl, s, rfl, hs, hts⟩
  go_wp2_with fail
  have hnv : ∀ (v : Value) (l : List Nat), OwnL w base 75 v l → ∀ j, v.ownBlock = some j → j ≠ gd ∧ j < w.heap.size := fun v l ho j hj => ⟨fun e => ho.ne_bk HD.out.bk (by decide) (by rw [hj, e]), (ho.block j hj).2⟩
  have HNV := Lib.hid hnv
  clear hnv
  have hob : OwnL (w.drewN k) base 75 (.slice Ab nb' cb) lb := by
    have := (HD.out.drewN k).b
    rwa [HVB.out] at this
  refine (shifted_same base m s Ab lb b nb' cb (some ⟨b0, o0, none⟩) c2 (w.drewN k) hob hbase (hb.drewN k) (by omega) (by omega) hs).mono ?_
  rintro e w2 ⟨gb, c3, T3, rfl, hB2, hB2l, hN2, hc39, hbg3, hF2, hor2⟩
  rw [← HVB.out] at hF2 hor2
  clear hob
  -- behind the first shift: by
  have hk2 : Bk w2 gd 118 #[vq, vr, vb] := (hF2.block gd hgdlt (fun e => (HNV.out _ _ HD.out.b gd e).1 rfl)).trans HD.out.bk
  have hgbd : gb ≠ gd := by
    rintro rfl
    have h1 := hB2.bk
    unfold Bk at h1 hk2
    rw [h1] at hk2
    injection hk2 with hk2
    injection hk2 with _ e
    exact absurd e (by decide)
  have hk3 : Bk (w2.setCell ⟨gd, 2, none⟩ (.slice (some ⟨gb, 0, none⟩) m c3)) gd 118 #[vq, vr, .slice (some ⟨gb, 0, none⟩) m c3] := by
    have h1 := hk2.set_ 2 (.slice (some ⟨gb, 0, none⟩) m c3)
    simpa using h1
  have hB3 := hB2.other (p := ⟨gd, 2, none⟩) hgbd (.slice (some ⟨gb, 0, none⟩) m c3)
  have keep3 : ∀ (v : Value) (l : List Nat), OwnL w base 75 v l → Ap vb v → OwnL (w2.setCell ⟨gd, 2, none⟩ (.slice (some ⟨gb, 0, none⟩) m c3)) base 75 v l := by
    intro v l ho hap
    refine ho.keep fun j hj => ?_
    obtain ⟨e1, e2⟩ := HNV.out v l ho j hj
    rw [Below.heap_setCell _ _ _ _ e1]
    exact hF2.block j e2 (fun e => hap j e hj)
  have hq3 := keep3 _ _ HD.out.q HD.out.qb.symm
  have hr3 := keep3 _ _ HD.out.r HD.out.rb.symm
  have hF3 : Fr (DS gd vq vr vb) w (w2.setCell ⟨gd, 2, none⟩ (.slice (some ⟨gb, 0, none⟩) m c3)) :=
    Fr.setCell ((((Fr.refl (DS gd vq vr vb) w).drewN k).trans hF2 (fun x _ e => .inr (.inr (.inr e))))) (fun _ => .inl rfl) _ _
  have hgb : gb < w.heap.size → vb.ownBlock = some gb := by
    intro hlt
    rcases hor2 with h | h
    · exact h
    · exact absurd hlt (Nat.not_lt.2 h)
  have hd2 : w2.cell? ⟨gd, 2, none⟩ = some (.slice Ab nb' cb) := by
    have := hk2.cell 2
    rw [HVB.out] at this
    simpa using this
  have hfd2 := hk2.frozen 2
  have hd1 : w2.cell? ⟨gd, 1, none⟩ = some (.slice Ar nr cr) := by
    have := hk2.cell 1
    rw [HVR.out] at this
    simpa using this
  have HGB := Lib.hid hgb
  have HK3 := Lib.hid hk3
  have HB3 := Lib.hid hB3
  have HQ3 := Lib.hid hq3
  have HR3 := Lib.hid hr3
  have HF3 := Lib.hid hF3
  have HB2L := Lib.hid hB2l
  have HN2 := Lib.hid hN2
  clear hk2 hk3 hB3 hB2 keep3 hq3 hr3 hF3 hF2 hor2 hgb hB2l hN2 d2 f2 hct
  go_wp2_with fail
  have hob : OwnL (w2.setCell ⟨gd, 2, none⟩ (.slice (some ⟨gb, 0, none⟩) m c3)) base 75 (.slice Ar nr cr) lr := by
    have := HR3.out
    rwa [HVR.out] at this
  have hsh := shifted_more base (n + 1) n s Ar lr a nr cr A c (w2.setCell ⟨gd, 2, none⟩ (.slice (some ⟨gb, 0, none⟩) m c3)) hob (Nat.le_trans hbase HF3.out.size) (ha.fr HF3.out HOFF.out) rfl (by omega) (by omega) hs
  rw [show (((n + 1 : Nat)) : Int) = (n : Int) + 1 from by omega] at hsh
  refine hsh.mono ?_
  clear hsh hob
  rintro e w4 ⟨gr, c5, T5, rfl, hR4, hR4l, hN4, hc59, hbg5, hF4, hor4⟩
  rw [← HVR.out] at hF4 hor4
  generalize w2.setCell ⟨gd, 2, none⟩ (.slice (some ⟨gb, 0, none⟩) m c3) = w3 at HK3 HB3 HQ3 HR3 HF3 hF4 hor4
  have hw3 := HF3.out.size
  have hgd3 := HK3.out.lt
  have hgb3 := HB3.out.lt
  have hgbr : vr.ownBlock ≠ some gb := by
    intro e
    have h1 := (HNV.out _ _ HD.out.r gb e).2
    exact HD.out.rb gb e (HGB.out h1)
  have hgrb : gr ≠ gb := by
    rintro rfl
    rcases hor4 with h | h
    · exact hgbr h
    · omega
  have hk4 : Bk w4 gd 118 #[vq, vr, .slice (some ⟨gb, 0, none⟩) m c3] := (hF4.block gd hgd3 (fun e => (HNV.out _ _ HD.out.r gd e).1 rfl)).trans HK3.out
  have hB4 : Buf w4 gb 75 (shlL s 0 b ++ T3) := ⟨(hF4.block gb hgb3 hgbr).trans HB3.out.bk, HB3.out.bd⟩
  have hgrd : gr ≠ gd := by
    rintro rfl
    have h1 := hR4.bk
    unfold Bk at h1 hk4
    rw [h1] at hk4
    injection hk4 with hk4
    injection hk4 with _ e
    exact absurd e (by decide)
  have hq4 : OwnL w4 base 75 vq lq := HQ3.out.keep fun j hj => hF4.block j (HQ3.out.block j hj).2 (fun e => HD.out.qr j hj e)
  have hk5 : Bk (w4.setCell ⟨gd, 1, none⟩ (.slice (some ⟨gr, 0, none⟩) (n + 1) c5)) gd 118 #[vq, .slice (some ⟨gr, 0, none⟩) (n + 1) c5, .slice (some ⟨gb, 0, none⟩) m c3] := by
    have h1 := hk4.set_ 1 (.slice (some ⟨gr, 0, none⟩) (n + 1) c5)
    simpa using h1
  have hB5 := hB4.other (p := ⟨gd, 1, none⟩) hgbd (.slice (some ⟨gr, 0, none⟩) (n + 1) c5)
  have hR5 := hR4.other (p := ⟨gd, 1, none⟩) hgrd (.slice (some ⟨gr, 0, none⟩) (n + 1) c5)
  have hq5 : OwnL (w4.setCell ⟨gd, 1, none⟩ (.slice (some ⟨gr, 0, none⟩) (n + 1) c5)) base 75 vq lq := hq4.keep fun j hj => Below.heap_setCell _ _ _ _ (HNV.out _ _ HD.out.q j hj).1
  have hF5 : Fr (DS gd vq vr vb) w (w4.setCell ⟨gd, 1, none⟩ (.slice (some ⟨gr, 0, none⟩) (n + 1) c5)) :=
    Fr.setCell (HF3.out.trans hF4 (fun x _ e => .inr (.inr (.inl e)))) (fun _ => .inl rfl) _ _
  have hgr : gr < w.heap.size → vr.ownBlock = some gr := by
    intro hlt
    rcases hor4 with h | h
    · exact h
    · omega
  have hd1' : w4.cell? ⟨gd, 1, none⟩ = some (.slice Ar nr cr) := by
    have := hk4.cell 1
    rw [HVR.out] at this
    simpa using this
  have hfd1 := hk4.frozen 1
  have hd0 : w4.cell? ⟨gd, 0, none⟩ = some (.slice Aq nq cq) := by
    have := hk4.cell 0
    rw [HVQ.out] at this
    simpa using this
  have HGR := Lib.hid hgr
  have HK5 := Lib.hid hk5
  have HB5 := Lib.hid hB5
  have HR5 := Lib.hid hR5
  have HQ5 := Lib.hid hq5
  have HF5 := Lib.hid hF5
  have HR4L := Lib.hid hR4l
  have HN4 := Lib.hid hN4
  clear hk4 hk5 hB4 hB5 hR5 hR4 hq4 hq5 hF5 hF4 hor4 hgr hR4l hN4 HK3 HB3 HQ3 HR3 HF3 hd1 hd2 hfd2 hgbr
  go_wp2_with fail
  have hob : OwnL (w4.setCell ⟨gd, 1, none⟩ (.slice (some ⟨gr, 0, none⟩) (n + 1) c5)) base 75 (.slice Aq nq cq) lq := by
    have := HQ5.out
    rwa [HVQ.out] at this
  have hsz := sized_own base (n - m + 1) _ lq (w4.setCell ⟨gd, 1, none⟩ (.slice (some ⟨gr, 0, none⟩) (n + 1) c5)) hob (Nat.le_trans hbase HF5.out.size) (by omega) (by omega)
  rw [show (((n - m + 1 : Nat)) : Int) = (n : Int) - (m : Int) + 1 from by omega] at hsz
  refine hsz.mono ?_
  clear hsz hob
  rintro e w6 ⟨gq, c7, O, rfl, hO6, hO6l, hnc7, hc79, hB6, hbg7, hor6⟩
  rw [← HVQ.out] at hor6
  generalize w4.setCell ⟨gd, 1, none⟩ (.slice (some ⟨gr, 0, none⟩) (n + 1) c5) = w5 at HK5 HB5 HR5 HQ5 HF5 hB6 hor6
  have hw5 := HF5.out.size
  have hgq : gq < w.heap.size → vq.ownBlock = some gq := by
    intro hlt
    rcases hor6 with ⟨h, _⟩ | ⟨h, _⟩
    · exact h
    · omega
  have hk6 := HK5.out.below hB6 HK5.out.lt
  have hB6' := HB5.out.below hB6 HB5.out.lt
  have hR6 := HR5.out.below hB6 HR5.out.lt
  have hgqd : gq ≠ gd := by
    rintro rfl
    have h1 := hO6.bk
    unfold Bk at h1 hk6
    rw [h1] at hk6
    injection hk6 with hk6
    injection hk6 with _ e
    exact absurd e (by decide)
  have hgqr : gq ≠ gr := by
    rintro rfl
    rcases hor6 with ⟨h, _⟩ | ⟨h, _⟩
    · exact HD.out.qr gq h (HGR.out (HNV.out _ _ HD.out.q gq h).2)
    · have := HR5.out.lt; omega
  have hgqb : gq ≠ gb := by
    rintro rfl
    rcases hor6 with ⟨h, _⟩ | ⟨h, _⟩
    · exact HD.out.qb gq h (HGB.out (HNV.out _ _ HD.out.q gq h).2)
    · have := HB5.out.lt; omega
  have hk7 : Bk (w6.setCell ⟨gd, 0, none⟩ (.slice (some ⟨gq, 0, none⟩) (n - m + 1) c7)) gd 118 #[.slice (some ⟨gq, 0, none⟩) (n - m + 1) c7, .slice (some ⟨gr, 0, none⟩) (n + 1) c5, .slice (some ⟨gb, 0, none⟩) m c3] := by
    have h1 := hk6.set_ 0 (.slice (some ⟨gq, 0, none⟩) (n - m + 1) c7)
    simpa using h1
  have hB7 := hB6'.other (p := ⟨gd, 0, none⟩) hgbd (.slice (some ⟨gq, 0, none⟩) (n - m + 1) c7)
  have hR7 := hR6.other (p := ⟨gd, 0, none⟩) hgrd (.slice (some ⟨gq, 0, none⟩) (n - m + 1) c7)
  have hO7 := hO6.other (p := ⟨gd, 0, none⟩) hgqd (.slice (some ⟨gq, 0, none⟩) (n - m + 1) c7)
  have hF7 : Fr (DS gd vq vr vb) w (w6.setCell ⟨gd, 0, none⟩ (.slice (some ⟨gq, 0, none⟩) (n - m + 1) c7)) :=
    Fr.setCell (HF5.out.trans (Fr.of_below (S := fun _ => False) hB6) (fun _ _ h => h.elim)) (fun _ => .inl rfl) _ _
  have hd0' : w6.cell? ⟨gd, 0, none⟩ = some (.slice Aq nq cq) := by
    have := hk6.cell 0
    rw [HVQ.out] at this
    simpa using this
  have hfd0 := hk6.frozen 0
  have HGQ := Lib.hid hgq
  have HK7 := Lib.hid hk7
  have HB7 := Lib.hid hB7
  have HR7 := Lib.hid hR7
  have HO7 := Lib.hid hO7
  have HF7 := Lib.hid hF7
  have HO6L := Lib.hid hO6l
  clear hk6 hk7 hB6' hB7 hR6 hR7 hO6 hO7 hF7 hB6 hor6 hgq HK5 HB5 HR5 HQ5 HF5 hd0 hd1' hfd1 hO6l
  go_wp2_with fail
  generalize w6.setCell ⟨gd, 0, none⟩ (.slice (some ⟨gq, 0, none⟩) (n - m + 1) c7) = w7 at HK7 HB7 HR7 HO7 HF7
  clear hd0' hfd0
  have hab := ha.bd
  have hbb := hb.bd
  have hVl : (shlL s 0 b).length = m := by rw [shlL_length, HBL.out]
  have hVv : val (shlL s 0 b) = val b * 2 ^ s := shl_exact hs (k := m - 1) HT.out (by rw [HBL.out]; omega) hts
  have hXl : (shlL s 0 (a ++ [0])).length = n + 1 := by rw [shlL_length, List.length_append, HAL.out]; rfl
  have hXv : val (shlL s 0 (a ++ [0])) = val a * 2 ^ s := by
    have h1 := shl_exact hs (X := a ++ [0]) (k := n) (t := 0) (by rw [List.getElem?_append_right (by rw [HAL.out]; exact Nat.le_refl _), HAL.out, Nat.sub_self]; rfl) (by rw [List.length_append, HAL.out]; rfl) (by omega)
    rw [h1, val_append]
    simp [val]
  have hinit := long_init (s := s) hab HAL.out nb HBL.out (by omega) hmn hXl hXv
  have hVb : Bd (shlL s 0 b) := shlL_bd hs b 0 hbb (by omega)
  have hVtop : 0 < (shlL s 0 b).getD (m - 1) 0 := by
    obtain ⟨y, hy⟩ : ∃ y, b[m - 2]? = some y := ⟨b[m - 2]'(by rw [HBL.out]; omega), List.getElem?_eq_getElem (by rw [HBL.out]; omega)⟩
    have hT := HT.out
    rw [show m - 1 = m - 2 + 1 from by omega] at hT ⊢
    rw [List.getD_eq_getElem?_getD, shlL_get s b 0 (m - 2) t y hT hy]
    show 0 < t * 2 ^ s % 4294967296 + y / 2 ^ (32 - s)
    rw [Nat.mod_eq_of_lt hts]
    exact Nat.add_pos_left (Nat.mul_pos htp (Nat.two_pow_pos s)) _
  have hVW := val_lt hVb
  rw [hVl] at hVW
  rw [← hVv] at hinit
  generalize shlL s 0 b = V at HB7 hVl hVv hVtop hVW hinit
  generalize shlL s 0 (a ++ [0]) = X at HR7 hXl hXv hinit
  have HVL := Lib.hid hVl
  have HVV := Lib.hid hVv
  have HXL := Lib.hid hXl
  have HXV := Lib.hid hXv
  have HINIT := Lib.hid hinit
  have HVTOP := Lib.hid hVtop
  have HVW := Lib.hid hVW
  have HMN := Lib.hid hmn
  clear hVl hVv hXl hXv hinit hVtop hVW hVb hab hbb
  go_loopw [7] (fun iv wr => ∃ (i : Int) (R Q : List Nat), -1 ≤ i ∧ i ≤ (n : Int) - (m : Int) ∧ iv = .int .i64 i ∧ Buf wr gr 75 (R ++ T5) ∧ Hid (R.length = n + 1) ∧ Buf wr gq 75 (O.take (i + 1).toNat ++ Q ++ O.drop (n - m + 1)) ∧
      Hid (Q.length = n - m + 1 - (i + 1).toNat) ∧ Hid (val a * 2 ^ s = val R + W (i + 1).toNat * (val Q * val V)) ∧ Hid (val (R.drop (i + 1).toNat) < val V) ∧ Fr (fun k => k = gr ∨ k = gq) w7 wr ∧ Hid (wr.heap.size = w7.heap.size))
    (fun iv _ => (intOf iv + 1).toNat)
  case atStart =>
    refine ⟨(n : Int) - (m : Int), X, [], by omega, by omega, rfl, HR7.out, HXL.out, ?_, ?_, ?_, ?_, Fr.refl _ _, rfl⟩
    · rw [show ((n : Int) - (m : Int) + 1).toNat = n - m + 1 from by omega, List.append_nil, List.take_append_drop]; exact HO7.out
    · show 0 = n - m + 1 - _; omega
    · show _ = val X + _
      rw [HXV.out]; simp [val]
    · show val (X.drop _) < val V
      rw [show ((n : Int) - (m : Int) + 1).toNat = n - m + 1 from by omega]; exact HINIT.out
  case round =>
    obtain ⟨i, R, Q, hi1, hi2, rfl, hRb, hRl, hQb, hQl, hval, hlt, hfr, hws⟩ := hrel
    have hkd : Bk wr gd 118 #[.slice (some ⟨gq, 0, none⟩) (n - m + 1) c7, .slice (some ⟨gr, 0, none⟩) (n + 1) c5, .slice (some ⟨gb, 0, none⟩) m c3] :=
      (hfr.block gd HK7.out.lt (fun h => h.elim (fun e => hgrd e.symm) (fun e => hgqd e.symm))).trans HK7.out
    have hbb : Buf wr gb 75 (V ++ T3) := ⟨(hfr.block gb HB7.out.lt (fun h => h.elim (fun e => hgrb e.symm) (fun e => hgqb e.symm))).trans HB7.out.bk, HB7.out.bd⟩
    have e0 : wr.cell? ⟨gd, 0, none⟩ = some (.slice (some ⟨gq, 0, none⟩) (n - m + 1) c7) := by simpa using hkd.cell 0
    have e1 : wr.cell? ⟨gd, 1, none⟩ = some (.slice (some ⟨gr, 0, none⟩) (n + 1) c5) := by simpa using hkd.cell 1
    have e2 : wr.cell? ⟨gd, 2, none⟩ = some (.slice (some ⟨gb, 0, none⟩) m c3) := by simpa using hkd.cell 2
    rcases Int.lt_or_le i 0 with hneg | hpos
    · obtain rfl : i = -1 := by omega
      have ez : ((-1 : Int) + 1).toNat = 0 := rfl
      rw [ez] at hQb hQl hval hlt
      rw [List.take_zero, List.nil_append] at hQb
      rw [W_zero, Nat.one_mul] at hval
      rw [List.drop_zero] at hlt
      have hQl2 : Hid (Q.length = n - m + 1) := hQl.out
      have hfrw : Fr (DS gd vq vr vb) w wr :=
        HF7.out.trans hfr (fun x hx h => h.elim (fun e => .inr (.inr (.inl (e ▸ HGR.out (e ▸ hx))))) (fun e => .inr (.inl (e ▸ HGQ.out (e ▸ hx)))))
      have hlq : Lim wr wr.heap.size (some ⟨gq, 0, none⟩) (n - m + 1) c7 Q := by
        have := hQb.lim (B := wr.heap.size) (n := n - m + 1) (c := c7) hQb.lt hnc7 hc79 (by rw [List.length_append, hQl2.out]; omega)
        rwa [List.take_left' hQl2.out] at this
      have hf0 := hkd.frozen 0
      have hf1 := hkd.frozen 1
      have HLQ := Lib.hid hlq
      have HKD := Lib.hid hkd
      have HFRW := Lib.hid hfrw
      have hO6l := HO6L.out
      have hR4l := HR4L.out
      have hB2l := HB2L.out
      rw [List.length_append, HN4.out] at hR4l
      have HR4L' := Lib.hid hR4l
      have HB2L' := Lib.hid hB2l
      have HO6L' := Lib.hid hO6l
      clear hQl hlq hkd hfrw hO6l hR4l hB2l ez
      go_wp2_with fail
      refine (trim_any _ _ _ _ _ _ HLQ.out).mono ?_
      rintro e w' ⟨rfl, m1, rfl, hm1', hv1, hn1⟩
      have hx1k : Bk (wr.setCell ⟨gd, 0, none⟩ (.slice (some ⟨gq, 0, none⟩) m1 c7)) gd 118 #[.slice (some ⟨gq, 0, none⟩) m1 c7, .slice (some ⟨gr, 0, none⟩) (n + 1) c5, .slice (some ⟨gb, 0, none⟩) m c3] := by
        have h1 := HKD.out.set_ 0 (.slice (some ⟨gq, 0, none⟩) m1 c7)
        simpa using h1
      have hx1q := hQb.other (p := ⟨gd, 0, none⟩) hgqd (.slice (some ⟨gq, 0, none⟩) m1 c7)
      have hx1r := hRb.other (p := ⟨gd, 0, none⟩) hgrd (.slice (some ⟨gq, 0, none⟩) m1 c7)
      have hx1b := hbb.other (p := ⟨gd, 0, none⟩) hgbd (.slice (some ⟨gq, 0, none⟩) m1 c7)
      have hx1f : Fr (DS gd vq vr vb) w (wr.setCell ⟨gd, 0, none⟩ (.slice (some ⟨gq, 0, none⟩) m1 c7)) := HFRW.out.setCell (fun _ => .inl rfl) _ _
      have hsb := shiftBack_any gr (n + 1) c5 s R T5 (wr.setCell ⟨gd, 0, none⟩ (.slice (some ⟨gq, 0, none⟩) m1 c7)) hx1r hRl.out (by omega) (by have := HR4L'.out; omega) (by omega) hs
      have HSB := Lib.hid hsb
      have HX1K := Lib.hid hx1k
      have HX1Q := Lib.hid hx1q
      have HX1B := Lib.hid hx1b
      have HX1F := Lib.hid hx1f
      clear hsb hx1k hx1q hx1r hx1b hx1f
      go_wp2_with fail
      refine HSB.out.mono ?_
      rintro e x2 ⟨rfl, hx2r, hon2⟩
      have hx2k := hon2.bk HX1K.out (Ne.symm hgrd)
      have hx2q := hon2.buf HX1Q.out hgqr
      have hx2b := hon2.buf HX1B.out (Ne.symm hgrb)
      have hx2f : Fr (DS gd vq vr vb) w x2 := HX1F.out.only hon2 (fun h => .inr (.inr (.inl (HGR.out h))))
      have hy1 : x2.cell? ⟨gd, 1, none⟩ = some (.slice (some ⟨gr, 0, none⟩) (n + 1) c5) := by simpa using hx2k.cell 1
      have hyf := hx2k.frozen 1
      have hsl : (shrL s R).length = n + 1 := by rw [shrL_length]; exact hRl.out
      have hlr : Lim x2 x2.heap.size (some ⟨gr, 0, none⟩) (n + 1) c5 (shrL s R) := by
        have := hx2r.lim (B := x2.heap.size) (n := n + 1) (c := c5) hx2r.lt (by have := HR4L'.out; omega) hc59 (by rw [List.length_append, hsl]; omega)
        rwa [List.take_left' hsl] at this
      have HLR := Lib.hid hlr
      have HX2K := Lib.hid hx2k
      have HX2Q := Lib.hid hx2q
      have HX2R := Lib.hid hx2r
      have HX2B := Lib.hid hx2b
      have HX2F := Lib.hid hx2f
      have HSL := Lib.hid hsl
      clear hx2k hx2q hx2b hx2f hx2r hlr hsl e0 e1 e2
      go_wp2_with fail
      refine (trim_any _ _ _ _ _ _ HLR.out).mono ?_
      rintro e w' ⟨rfl, m2, rfl, hm2', hv2, hn2⟩
      go_wp2
      go_end0
      obtain ⟨r0, Rr, hRe⟩ : ∃ r0 Rr, R = r0 :: Rr := by
        cases R with
        | nil => have := hRl.out; simp at this
        | cons x r => exact ⟨x, r, rfl⟩
      have hshr := val_shrL (s := s) (by omega) Rr r0
      rw [← hRe] at hshr
      have hval' := hval.out
      rw [HVV.out] at hval'
      have hlt' := hlt.out
      rw [HVV.out] at hlt'
      obtain ⟨q1, q2⟩ := long_end hval' hlt' hshr (Nat.mod_lt _ (Nat.two_pow_pos s))
      refine ⟨rfl, .slice (some ⟨gq, 0, none⟩) m1 c7, .slice (some ⟨gr, 0, none⟩) m2 c5, .slice (some ⟨gb, 0, none⟩) m c3, Q.take m1, (shrL s R).take m2, V, ⟨?_, ?_, ?_, ?_, ?_, ?_, ?_⟩, hn1, ?_, hn2, ?_, ?_, ?_⟩
      · have h1 := HX2K.out.set_ 1 (.slice (some ⟨gr, 0, none⟩) m2 c5)
        simpa using h1
      · refine .inr ⟨gq, m1, c7, Q ++ O.drop (n - m + 1), rfl, hbg7, HX2Q.out.other hgqd _, ?_, by omega, hc79, ?_⟩
        · rw [List.length_append, hQl2.out, List.length_drop, HO6L'.out]; omega
        · rw [List.take_append_of_le_length (by rw [hQl2.out]; exact hm1')]
      · refine .inr ⟨gr, m2, c5, shrL s R ++ T5, rfl, hbg5, HX2R.out.other hgrd _, ?_, ?_, hc59, ?_⟩
        · rw [List.length_append, HSL.out]; exact HR4L'.out
        · have := HR4L'.out; omega
        · rw [List.take_append_of_le_length (by rw [HSL.out]; exact hm2')]
      · refine .inr ⟨gb, m, c3, V ++ T3, rfl, hbg3, HX2B.out.other hgbd _, ?_, ?_, hc39, ?_⟩
        · have h1 := HB2L'.out
          rw [List.length_append, HN2.out] at h1
          rw [List.length_append, HVL.out]; exact h1
        · have h1 := HB2L'.out
          rw [List.length_append, HN2.out] at h1
          omega
        · rw [List.take_left' HVL.out]
      · intro k1 h1 h2
        have e1 : gq = k1 := by simpa [Value.ownBlock] using h1
        have e2 : gr = k1 := by simpa [Value.ownBlock] using h2
        exact hgqr (e1.trans e2.symm)
      · intro k1 h1 h2
        have e1 : gq = k1 := by simpa [Value.ownBlock] using h1
        have e2 : gb = k1 := by simpa [Value.ownBlock] using h2
        exact hgqb (e1.trans e2.symm)
      · intro k1 h1 h2
        have e1 : gr = k1 := by simpa [Value.ownBlock] using h1
        have e2 : gb = k1 := by simpa [Value.ownBlock] using h2
        exact hgrb (e1.trans e2.symm)
      · rw [hv1, q1]
      · rw [hv2, q2]
      · exact HX2F.out.setCell (fun _ => .inl rfl) _ _
      · intro k1 hk
        rcases hk with h | h | h | h
        · exact .inl (.inl h)
        · have e1 : gq = k1 := by simpa [Value.ownBlock] using h
          rcases Nat.lt_or_ge k1 w.heap.size with h2 | h2
          · exact .inl (.inr (.inl (e1 ▸ HGQ.out (e1.symm ▸ h2))))
          · exact .inr h2
        · have e1 : gr = k1 := by simpa [Value.ownBlock] using h
          rcases Nat.lt_or_ge k1 w.heap.size with h2 | h2
          · exact .inl (.inr (.inr (.inl (e1 ▸ HGR.out (e1.symm ▸ h2)))))
          · exact .inr h2
        · have e1 : gb = k1 := by simpa [Value.ownBlock] using h
          rcases Nat.lt_or_ge k1 w.heap.size with h2 | h2
          · exact .inl (.inr (.inr (.inr (e1 ▸ HGB.out (e1.symm ▸ h2)))))
          · exact .inr h2
    · obtain ⟨q, rfl⟩ : ∃ q : Nat, i = (q : Int) := ⟨i.toNat, by omega⟩
      rw [show ((q : Int) + 1).toNat = q + 1 from by omega] at hQb hQl hval hlt
      have hqn : q + m ≤ n := by omega
      have hRbd : Bd R := fun x hx => hRb.bd x (by simp [hx])
      obtain ⟨p1, p2⟩ := long_pre hRbd (i := q) (m := m) (V := val V) (by rw [hRl.out]; omega) hlt.out HVW.out
      have htk := takeOff_m gr q (c5 - q) m c3 gb (R ++ T5) (V ++ T3) wr.drew hRb.drew (by rw [List.length_append, hRl.out]; omega) hbb.drew (Ne.symm hgrb) hm2 (by rw [List.length_append, HVL.out]; omega) (by have := HR4L.out; rw [List.length_append] at this; have := HN4.out; omega) (by have := HB2L.out; rw [List.length_append] at this; have := HN2.out; omega) (by omega)
        (by rw [List.getD_eq_getElem?_getD, List.getElem?_append_left (by rw [HVL.out]; omega), ← List.getD_eq_getElem?_getD]; exact HVTOP.out)
        (by rw [sl_drop_take (by rw [hRl.out]; omega), List.take_left' HVL.out]; exact p1)
      rw [List.take_left' HVL.out] at htk
      have HTK := Lib.hid htk
      have HP2 := Lib.hid p2
      have hqO : q < O.length := by rw [HO6L.out]; omega
      have hg1 := limb_get (Q := Q) (T := O.drop (n - m + 1)) hqO (List.getElem?_eq_getElem hqO)
      obtain ⟨z, hz, hcz⟩ := hQb.cell (k := q) (List.getElem?_eq_some_iff.1 hg1).1
      have hfz := hQb.frozen q
      have hs1 : ∀ (W : World) (o j : Nat) (u : Value), (W.setCell ⟨gq, o, none⟩ u).cell? ⟨gd, j, none⟩ = W.cell? ⟨gd, j, none⟩ := fun W o j u => World.cell?_setCell_other W _ _ u (fun e => hgqd (congrArg Addr.block e))
      have honk : ∀ (W W' : World) (o : Nat), Only gr W W' → W'.cell? ⟨gq, o, none⟩ = W.cell? ⟨gq, o, none⟩ ∧ W'.frozen? ⟨gq, o, none⟩ = W.frozen? ⟨gq, o, none⟩ ∧ (∀ j, W'.cell? ⟨gd, j, none⟩ = W.cell? ⟨gd, j, none⟩) :=
        fun W W' o h => ⟨World.cell?_of_block (a := ⟨gq, o, none⟩) (h.block gq hgqr), World.frozen?_of_block (a := ⟨gq, o, none⟩) (h.block gq hgqr), fun j => World.cell?_of_block (a := ⟨gd, j, none⟩) (h.block gd (Ne.symm hgrd))⟩
      have HONK := Lib.hid honk
      have hcq : q + m + 1 ≤ c5 := by
        have h1 := HR4L.out
        rw [List.length_append] at h1
        have h2 := HN4.out
        omega
      clear hg1 hz htk p1 p2 honk hkd hbb
      go_wp2_with fail
      have k1 : IntKind.i64.wrap ((q : Int) + (m : Int)) = (q : Int) + (m : Int) := IntWalk.i64_in _ (by omega)
      have k2 : IntKind.i64.wrap ((q : Int) + (m : Int) + 1) = (q : Int) + (m : Int) + 1 := IntWalk.i64_in _ (by omega)
      have k3 : (q : Int) ≤ (q : Int) + (m : Int) + 1 := by omega
      have k4 : (q : Int) + (m : Int) + 1 ≤ (c5 : Int) := by omega
      have k5 : 0 ≤ (q : Int) + (m : Int) + 1 := by omega
      have k6 : ((q : Int) + (m : Int) + 1).toNat = q + m + 1 := by omega
      have k7 : q + m + 1 - q = m + 1 := by omega
      have k8 : ¬ c5 = q := by omega
      have k9 : (q : Int) < ((n - m + 1 : Nat) : Int) := by omega
      have k10 : q < n - m + 1 := by omega
      have k11 : (q : Int) < ((n - m : Nat) : Int) + 1 := by omega
      have k12 : (0 : Int) ≤ (q : Int) := by omega
      go_region_held3 (fun w' => w'.cell? ⟨gd, 0, none⟩ = some (.slice (some ⟨gq, 0, none⟩) (n - m + 1) c7) ∧ w'.cell? ⟨gd, 1, none⟩ = some (.slice (some ⟨gr, 0, none⟩) (n + 1) c5) ∧ w'.cell? ⟨gd, 2, none⟩ = some (.slice (some ⟨gb, 0, none⟩) m c3)) (go_keep)
        (first | (go_at_call 120; refine HTK.out.mono ?_; rintro e w' ⟨qd, P, rfl, hqd, hPl, hRb2, hPv, hPlt, hon⟩; obtain ⟨hc9, hf9, hd9⟩ := HONK.out _ _ q hon; have HPV := Lib.hid hPv; have HPL := Lib.hid hPl; clear hPv hPl))
      clear k1 k2 k3 k4 k5 k6 k7 k8 k9 k10 k11 k12
      go_wp2
      go_roundw
      case rel =>
        have hR2 : Buf w' gr 75 ((R.take q ++ P ++ R.drop (q + m + 1)) ++ T5) := by
          have h1 := hRb2
          rwa [Nat.add_assoc, sl_splice (by rw [hRl.out]; omega), ← Nat.add_assoc] at h1
        have hpv := HPV.out
        rw [sl_drop_take (by rw [hRl.out]; omega)] at hpv
        obtain ⟨r1, r2⟩ := long_round (i := q) (m := m) (by rw [hRl.out]; omega) HPL.out hval.out hpv HP2.out hPlt
        refine ⟨(q : Int) - 1, R.take q ++ P ++ R.drop (q + m + 1), qd :: Q, by omega, by omega, by go_num, hR2.other (p := ⟨gq, q, none⟩) (Ne.symm hgqr) _, ?_, ?_, ?_, ?_, ?_, ?_, ?_⟩
        · show _ = n + 1
          rw [List.length_append, List.length_append, List.length_take, List.length_drop, HPL.out, hRl.out]; omega
        · rw [show ((q : Int) - 1 + 1).toNat = q from by omega, ← limb_set (Q := Q) (T := O.drop (n - m + 1)) hqO]
          exact (hon.buf hQb.drew hgqr).set_ q qd hqd
        · show (qd :: Q).length = _
          rw [List.length_cons, hQl.out]; omega
        · rw [show ((q : Int) - 1 + 1).toNat = q from by omega]; exact r1
        · rw [show ((q : Int) - 1 + 1).toNat = q from by omega]; exact r2
        · exact ((hfr.drew.only hon (fun _ => .inl rfl)).setCell (fun _ => .inr rfl) _ _)
        · show (w'.setCell _ _).heap.size = _
          rw [World.size_setCell, hon.size]; exact hws.out
      case measure => simp [intOf]

end Go.Proofs.YtfnibkodccfocaaGreat
