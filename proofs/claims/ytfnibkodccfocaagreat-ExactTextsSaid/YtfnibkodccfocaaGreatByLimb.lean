/- The walk of divideByLimb. -/
import Derived.Test.YtfnibkodccfocaaGreatDivLimb
namespace Go.Proofs.YtfnibkodccfocaaGreat
open Go.RowKit

theorem div_step {q r r' x y V Qv : Nat} (hs : r * 4294967296 + x = q * y + r') (h : Qv * y + r = V) : (q + 4294967296 * Qv) * y + r' = x + 4294967296 * V := by
  rw [Nat.add_mul, Nat.mul_assoc, ← h, Nat.mul_add]; omega

theorem limb_get {O Q T : List Nat} {k z : Nat} (hk : k < O.length) (hz : O[k]? = some z) : (O.take (k + 1) ++ Q ++ T)[k]? = some z := by
  rw [List.append_assoc, List.getElem?_append_left (by rw [List.length_take]; omega), List.getElem?_take, if_pos (by omega)]; exact hz
theorem limb_set {O Q T : List Nat} {k z : Nat} (hk : k < O.length) : (O.take (k + 1) ++ Q ++ T).set k z = O.take k ++ (z :: Q) ++ T := by
  have e : (O.take k).length = k := by rw [List.length_take]; omega
  rw [List.take_succ_eq_append_getElem hk, List.append_assoc, List.append_assoc, List.set_append_right _ _ (by omega), e, Nat.sub_self]
  simp

set_option maxRecDepth 100000 in
set_option maxHeartbeats 4000000 in
theorem byLimb_any (gd base n c y : Nat) (A : Option Addr) (a : List Nat) (vq vr vb : Value) (lq lr lb : List Nat) (w : World) (hD : DivS w gd base vq vr vb lq lr lb) (hbase : base ≤ w.heap.size) (hgb : base ≤ gd)
    (ha : Lim w w.heap.size A n c a) (hoff : 0 < n → Off A (DS gd vq vr vb)) (hy0 : 0 < y) (hyb : y < 4294967296) (h0 : 0 < n) (hn : n ≤ 1073741824) :
    Calls Tryz.prog 104 #[.pointer (some ⟨gd, 0, none⟩), .slice A n c, .int .u32 (y : Int)] w (DivR gd base vq vr vb (val a / y) (val a % y) w) := by
  obtain ⟨i0, hi0, hz0, hz1, hz2⟩ := info_parts info_u32
  have hal := Lib.hid ha.len
  have hab := Lib.hid ha.bd
  obtain ⟨Aq, cq, hvq⟩ := hD.q.form
  obtain ⟨Ar, cr, hvr⟩ := hD.r.form
  obtain ⟨Ab, cb, hvb⟩ := hD.b.form
  generalize lq.length = nq at hvq
  generalize lr.length = nr at hvr
  generalize lb.length = nb at hvb
  have d0 := hD.bk.cell 0
  have d1 := hD.bk.cell 1
  have d2 := hD.bk.cell 2
  simp only [List.getElem?_toArray, List.getElem?_cons_zero, List.getElem?_cons_succ, hvq, hvr, hvb] at d0 d1 d2
  have HD := Lib.hid hD
  have HOFF := Lib.hid hoff
  have HVQ := Lib.hid hvq
  have HVR := Lib.hid hvr
  have HVB := Lib.hid hvb
  have hgdlt := hD.bk.lt
  clear hD hoff hvq hvr hvb
  go_enter Tryz.func104, Tryz.ntmps104
  go_wp2_with fail
  have hown := HD.out.q
  rw [HVQ.out] at hown
  refine (sized_own base n _ lq _ hown hbase h0 (by omega)).mono ?_
  clear hown
  rintro e w1 ⟨gq, cq2, O, rfl, hO, hOl, hnc, hc9, hB1, hbgq, hor⟩
  have hk1 : Bk w1 gd 118 #[vq, vr, vb] := HD.out.bk.below hB1 hgdlt
  have hne : gq ≠ gd := by
    rintro rfl
    have h1 := hO.bk
    unfold Bk at h1 hk1
    rw [h1] at hk1
    injection hk1 with hk1
    injection hk1 with _ e
    exact absurd e (by decide)
  have d0 := hk1.cell 0
  simp only [List.getElem?_toArray, List.getElem?_cons_zero, HVQ.out] at d0
  have f0 := hk1.frozen 0
  have HK1 := Lib.hid hk1
  have HOR := Lib.hid hor
  have HOL := Lib.hid hOl
  clear hk1 hor hOl d1 d2
  go_wp2_with fail
  have hO2 : Buf (w1.setCell ⟨gd, 0, none⟩ (.slice (some ⟨gq, 0, none⟩) n cq2)) gq 75 O := hO.other (p := ⟨gd, 0, none⟩) hne _
  have hk2 : Bk (w1.setCell ⟨gd, 0, none⟩ (.slice (some ⟨gq, 0, none⟩) n cq2)) gd 118 #[.slice (some ⟨gq, 0, none⟩) n cq2, vr, vb] := by
    have := HK1.out.set_ 0 (.slice (some ⟨gq, 0, none⟩) n cq2)
    simpa using this
  have hf2 : Fr (DS gd vq vr vb) w (w1.setCell ⟨gd, 0, none⟩ (.slice (some ⟨gq, 0, none⟩) n cq2)) := (Fr.of_below hB1).setCell (fun _ => .inl rfl) _ _
  have hf3 : Fr (fun k => k = gd ∨ k = gq) w (w1.setCell ⟨gd, 0, none⟩ (.slice (some ⟨gq, 0, none⟩) n cq2)) := (Fr.of_below hB1).setCell (fun _ => .inl rfl) _ _
  generalize w1.setCell ⟨gd, 0, none⟩ (.slice (some ⟨gq, 0, none⟩) n cq2) = w2 at hO2 hk2 hf2 hf3
  have ha2 := ha.fr hf2 HOFF.out
  have HK2 := Lib.hid hk2
  clear d0 f0 hk2
  have hoffq : ∀ b o, A = some ⟨b, o, none⟩ → b < w.heap.size → b ≠ gq := by
    intro b o e hb hq
    subst hq
    rcases HOR.out with ⟨h1, _⟩ | ⟨h1, _⟩
    · exact HOFF.out h0 _ e (.inr (.inl (by rw [HVQ.out]; exact h1)))
    · omega
  have HOQ := Lib.hid hoffq
  clear hoffq
  go_loopw [6, 7] (fun cv iv wr => ∃ (i : Int) (r : Nat) (Q : List Nat), -1 ≤ i ∧ i < (n : Int) ∧ iv = .int .i64 i ∧ cv = .int .u32 (r : Int) ∧ r < y ∧ Buf wr gq 75 (O.take (i + 1).toNat ++ Q ++ O.drop n) ∧ Hid (Q.length = n - (i + 1).toNat) ∧
      Hid (val Q * y + r = val (a.drop (i + 1).toNat)) ∧ Only gq w2 wr)
    (fun _ iv _ => (intOf iv + 1).toNat)
  case atStart =>
    refine ⟨(n : Int) - 1, 0, [], by omega, by omega, rfl, rfl, hy0, ?_, ?_, ?_, Only.refl _ _⟩
    · rw [show ((n : Int) - 1 + 1).toNat = n from by omega, List.append_nil, List.take_append_drop]; exact hO2
    · show 0 = n - _; omega
    · show val [] * y + 0 = val (a.drop _)
      rw [List.drop_of_length_le (by rw [hal.out]; omega)]
      simp [val]
  case round =>
    obtain ⟨i, r, Q, hi1, hi2, rfl, rfl, hr, hbuf, hQ, hval, hon⟩ := hrel
    rcases Int.lt_or_le i 0 with hneg | hpos
    · obtain rfl : i = -1 := by omega
      have hQ2 : Hid (Q.length = n) := hQ.out
      have hval2 : Hid (val Q * y + r = val a) := by
        have h1 := hval.out
        have e : ((-1 : Int) + 1).toNat = 0 := rfl
        rw [e, List.drop_zero] at h1
        exact h1
      have hbuf2 : Buf wr gq 75 (Q ++ O.drop n) := by simpa using hbuf
      have hk3 := hon.bk HK2.out (Ne.symm hne)
      have hcd : wr.cell? ⟨gd, 0, none⟩ = some (.slice (some ⟨gq, 0, none⟩) n cq2) := by simpa using hk3.cell 0
      have hcd1 : wr.cell? ⟨gd, 1, none⟩ = some (.slice Ar nr cr) := by
        have := hk3.cell 1
        rw [HVR.out] at this
        simpa using this
      have hfd := hk3.frozen 0
      have hfd1 := hk3.frozen 1
      have hlq : Lim wr wr.heap.size (some ⟨gq, 0, none⟩) n cq2 Q := by
        have := hbuf2.lim (B := wr.heap.size) (n := n) (c := cq2) hbuf2.lt hnc hc9 (by rw [List.length_append, hQ2.out]; omega)
        rwa [List.take_left' hQ2.out] at this
      have hfr : Fr (fun k => k = gd ∨ k = gq) w wr := hf3.only hon (fun _ => .inr rfl)
      have hgq : gq < w.heap.size → vq.ownBlock = some gq := by
        intro hlt
        rcases HOR.out with ⟨h1, _⟩ | ⟨h1, _⟩
        · rw [HVQ.out]; exact h1
        · omega
      have hnk : ∀ (v : Value) (l : List Nat), OwnL w base 75 v l → Ap vq v → ∀ k, v.ownBlock = some k → k ≠ gd ∧ k ≠ gq ∧ k < w.heap.size := by
        intro v l ho hap k hk
        have hlt := (ho.block k hk).2
        refine ⟨fun e => ho.ne_bk HD.out.bk (by decide) (by rw [hk, e]), fun e => ?_, hlt⟩
        exact hap gq (hgq (e ▸ hlt)) (by rw [hk, e])
      have hkp : ∀ (v : Value) (l : List Nat), OwnL w base 75 v l → Ap vq v → OwnL wr base 75 v l := by
        intro v l ho hap
        refine ho.keep fun k hk => ?_
        obtain ⟨h1, h2, h3⟩ := hnk v l ho hap k hk
        exact hfr.block k h3 (fun h => h.elim h1 h2)
      have HNK := Lib.hid hnk
      have HKP := Lib.hid hkp
      have HGQ := Lib.hid hgq
      have HFR := Lib.hid hfr
      have HLQ := Lib.hid hlq
      have HK3 := Lib.hid hk3
      clear hQ hval hbuf hlq hk3 hnk hkp hgq hfr
      go_wp2_with fail
      refine (trim_any _ _ _ _ _ _ HLQ.out).mono ?_
      rintro e w' ⟨rfl, m, rfl, hm, hv, hnorm⟩
      have hbq3 := hbuf2.other (p := ⟨gd, 0, none⟩) hne (.slice (some ⟨gq, 0, none⟩) m cq2)
      have hbq4 := hbq3.alloc (.cells #[.int .u32 (r : Int)] 75)
      have hk4 : Bk ((wr.setCell ⟨gd, 0, none⟩ (.slice (some ⟨gq, 0, none⟩) m cq2)).alloc (.cells #[.int .u32 (r : Int)] 75)) gd 118 #[.slice (some ⟨gq, 0, none⟩) m cq2, vr, vb] := by
        have h1 := (HK3.out.set_ 0 (.slice (some ⟨gq, 0, none⟩) m cq2)).alloc (.cells #[.int .u32 (r : Int)] 75)
        simpa using h1
      have keep4 : ∀ (v : Value) (l : List Nat), OwnL w base 75 v l → Ap vq v → OwnL ((wr.setCell ⟨gd, 0, none⟩ (.slice (some ⟨gq, 0, none⟩) m cq2)).alloc (.cells #[.int .u32 (r : Int)] 75)) base 75 v l := by
        intro v l ho hap
        have h1 := HKP.out v l ho hap
        refine h1.keep fun k hk => ?_
        obtain ⟨e1, _, _⟩ := HNK.out v l ho hap k hk
        have hlt := (h1.block k hk).2
        rw [Below.heap_alloc _ _ _ (by simp; exact hlt), Below.heap_setCell _ _ _ _ e1]
      have hsrc : Lim ((wr.setCell ⟨gd, 0, none⟩ (.slice (some ⟨gq, 0, none⟩) m cq2)).alloc (.cells #[.int .u32 (r : Int)] 75)) (wr.heap.size + 1) (some ⟨wr.heap.size, 0, none⟩) 1 1 [r] := by
        have h1 : Buf ((wr.setCell ⟨gd, 0, none⟩ (.slice (some ⟨gq, 0, none⟩) m cq2)).alloc (.cells #[.int .u32 (r : Int)] 75)) wr.heap.size 75 [r] := by
          refine ⟨?_, Bd.nil.cons (by omega)⟩
          have := Bk.alloc_ (wr.setCell ⟨gd, 0, none⟩ (.slice (some ⟨gq, 0, none⟩) m cq2)) 75 #[.int .u32 (r : Int)]
          simpa [u32s] using this
        exact h1.lim (n := 1) (c := 1) (by omega) (by omega) (by omega) (by simp)
      have hr4 := keep4 _ _ HD.out.r HD.out.qr
      have hb4 := keep4 _ _ HD.out.b HD.out.qb
      rw [HVR.out] at hr4
      have hr5 := hr4.cut (m := 0) (Nat.zero_le _)
      rw [List.take_zero] at hr5
      have hfr4 : Fr (fun k => k = gd ∨ k = gq) w ((wr.setCell ⟨gd, 0, none⟩ (.slice (some ⟨gq, 0, none⟩) m cq2)).alloc (.cells #[.int .u32 (r : Int)] 75)) := (HFR.out.setCell (fun _ => .inl rfl) _ _).alloc _
      have HBQ4 := Lib.hid hbq4
      have HK4 := Lib.hid hk4
      have HSRC := Lib.hid hsrc
      have HR5 := Lib.hid hr5
      have HB4 := Lib.hid hb4
      have HFR4 := Lib.hid hfr4
      clear hbq3 hbq4 hk4 keep4 hsrc hr4 hr5 hb4 hfr4
      go_wp2_with (at_builtin; refine wpList_append_u32 _ rfl (.tmp 54) (.tmp 56) _ rfl base 75 i0 Tryz.underlying22 hi0 hz0 hz1 hz2 (.slice Ar 0 cr) [] rfl HR5.out (wr.heap.size + 1) (some ⟨wr.heap.size, 0, none⟩) 1 1 [r] rfl HSRC.out (by simp) (by simp; have := HFR.out.size; omega) ?_; intro v5 w5 hown5 hgrow5 hat5)
      obtain ⟨A5, c5, hv5, hl5⟩ := hown5.lim (Nat.le_refl _)
      have el : ([] ++ [r] : List Nat).length = 1 := rfl
      rw [el] at hv5 hl5
      rw [hv5] at hown5 hat5
      rw [hv5]
      clear hv5 el
      have hown4 : (Value.slice Ar 0 cr).ownBlock = vr.ownBlock := by rw [HVR.out]; cases Ar <;> rfl
      rw [hown4] at hgrow5 hat5
      have hnr := HNK.out _ _ HD.out.r HD.out.qr
      have hnb := HNK.out _ _ HD.out.b HD.out.qb
      have hsz4 : ((wr.setCell ⟨gd, 0, none⟩ (.slice (some ⟨gq, 0, none⟩) m cq2)).alloc (.cells #[.int .u32 (r : Int)] 75)).heap.size = wr.heap.size + 1 := by simp
      rw [hsz4] at hat5
      have hk5 : Bk w5 gd 118 #[.slice (some ⟨gq, 0, none⟩) m cq2, vr, vb] := (hgrow5.block gd HK4.out.lt (fun e => (hnr gd e.symm).1 rfl)).trans HK4.out
      have hb5 : Buf w5 gq 75 (Q ++ O.drop n) := ⟨(hgrow5.block gq HBQ4.out.lt (fun e => (hnr gq e.symm).2.1 rfl)).trans HBQ4.out.bk, HBQ4.out.bd⟩
      have hvb5 : OwnL w5 base 75 vb lb := HB4.out.keep fun k hk => hgrow5.block k (HB4.out.block k hk).2 (fun e => HD.out.rb k e.symm hk)
      have hwr := HFR.out.size
      have hfr5 : Fr (DS gd vq vr vb) w w5 := by
        have h1 : Fr (DS gd vq vr vb) w ((wr.setCell ⟨gd, 0, none⟩ (.slice (some ⟨gq, 0, none⟩) m cq2)).alloc (.cells #[.int .u32 (r : Int)] 75)) :=
          ⟨HFR4.out.os, HFR4.out.tape, HFR4.out.output, HFR4.out.size, fun k hk hs => HFR4.out.block k hk (fun h => h.elim (fun e => hs (.inl e)) (fun e => hs (.inr (.inl (e ▸ HGQ.out (e ▸ hk))))))⟩
        exact h1.grown hgrow5 (fun k _ e => .inr (.inr (.inl e)))
      have hcd5 : w5.cell? ⟨gd, 1, none⟩ = some (.slice Ar nr cr) := by
        have := hk5.cell 1
        rw [HVR.out] at this
        simpa using this
      have hfd5 := hk5.frozen 1
      have HL5 := Lib.hid hl5
      have HK5 := Lib.hid hk5
      have HB5 := Lib.hid hb5
      have HVB5 := Lib.hid hvb5
      have HFR5 := Lib.hid hfr5
      have HOWN5 := Lib.hid hown5
      have HAT5 := Lib.hid hat5
      have HNR := Lib.hid hnr
      have HNB := Lib.hid hnb
      clear hl5 hk5 hb5 hvb5 hfr5 hown5 hat5 hgrow5 hown4 hsz4 hnr hnb
      go_wp2_with fail
      refine (trim_any _ _ _ _ _ _ HL5.out).mono ?_
      rintro e w' ⟨rfl, m2, rfl, hm2, hv2, hnorm2⟩
      go_wp2
      go_end0
      have hgq4 : gq < wr.heap.size := hbuf2.lt
      have hq : val Q = val a / y ∧ r = val a % y := by
        have h1 := hval2.out
        have e1 : val a = r + y * val Q := by rw [Nat.mul_comm]; omega
        rw [e1, Nat.add_mul_div_left _ _ hy0, Nat.div_eq_of_lt hr, Nat.add_mul_mod_self_left, Nat.mod_eq_of_lt hr]
        exact ⟨by omega, rfl⟩
      have hA5 : ∀ k, (Value.slice A5 m2 c5).ownBlock = some k → vr.ownBlock = some k ∨ k = wr.heap.size + 1 := by
        intro k hk
        have e1 : (Value.slice A5 1 c5).ownBlock = (Value.slice A5 m2 c5).ownBlock := by cases A5 <;> rfl
        rcases HAT5.out with h | h
        · left; rw [← h, e1]; exact hk
        · right
          rw [e1, hk] at h
          exact Option.some.inj h
      refine ⟨rfl, .slice (some ⟨gq, 0, none⟩) m cq2, .slice A5 m2 c5, vb, Q.take m, ([] ++ [r] : List Nat).take m2, lb, ⟨?_, ?_, ?_, ?_, ?_, ?_, ?_⟩, hnorm, ?_, hnorm2, ?_, ?_, ?_⟩
      · have h1 := HK5.out.set_ 1 (.slice A5 m2 c5)
        simpa using h1
      · refine .inr ⟨gq, m, cq2, Q ++ O.drop n, rfl, hbgq, HB5.out.other hne _, ?_, by omega, hc9, ?_⟩
        · rw [List.length_append, hQ2.out, List.length_drop, HOL.out]; omega
        · rw [List.take_append_of_le_length (by rw [hQ2.out]; exact hm)]
      · refine (HOWN5.out.cut hm2).keep fun k hk => Below.heap_setCell _ _ _ _ ?_
        rcases hA5 k hk with h | h
        · exact (HNR.out k h).1
        · show k ≠ gd; omega
      · exact HVB5.out.keep fun k hk => Below.heap_setCell _ _ _ _ (HNB.out k hk).1
      · intro k hk hk2
        have e1 : gq = k := by simpa [Value.ownBlock] using hk
        rcases hA5 k hk2 with h | h
        · exact (HNR.out k h).2.1 e1.symm
        · omega
      · intro k hk hk2
        have e1 : gq = k := by simpa [Value.ownBlock] using hk
        exact (HNB.out k hk2).2.1 e1.symm
      · intro k hk hk2
        rcases hA5 k hk with h | h
        · exact HD.out.rb k h hk2
        · have := (HNB.out k hk2).2.2; omega
      · rw [hv, hq.1]
      · rw [hv2]
        have : val ([] ++ [r]) = r := by simp [val]
        rw [this, hq.2]
      · exact HFR5.out.setCell (fun _ => .inl rfl) _ _
      · intro k hk
        rcases hk with h | h | h | h
        · exact .inl (.inl h)
        · have e1 : gq = k := by simpa [Value.ownBlock] using h
          rcases Nat.lt_or_ge k w.heap.size with h2 | h2
          · exact .inl (.inr (.inl (e1 ▸ HGQ.out (e1.symm ▸ h2))))
          · exact .inr h2
        · rcases hA5 k h with h2 | h2
          · exact .inl (.inr (.inr (.inl h2)))
          · exact .inr (by omega)
        · exact .inl (.inr (.inr (.inr h)))
    · obtain ⟨q, rfl⟩ : ∃ q : Nat, i = (q : Int) := ⟨i.toNat, by omega⟩
      rw [show ((q : Int) + 1).toNat = q + 1 from by omega] at hbuf hQ hval
      have hqn : q < n := by omega
      obtain ⟨ba, oa, x, hAe, hba, hx, hxb, hcx0⟩ := ha.at_ (k := q) hqn
      have hbq := HOQ.out ba oa hAe hba
      obtain ⟨ba', oa', x', hAe', hba', hx', _, hcx⟩ := ha2.at_ (k := q) hqn
      rw [hAe] at hAe'
      simp only [Option.some.injEq, Addr.mk.injEq, and_true] at hAe'
      obtain ⟨rfl, rfl⟩ := hAe'
      obtain rfl : x' = x := by rw [hx] at hx'; exact (Option.some.inj hx').symm
      have hcx2 : wr.cell? ⟨ba, oa + q, none⟩ = some (.int .u32 (x' : Int)) := (World.cell?_of_block (a := ⟨ba, oa + q, none⟩) (hon.block ba hbq)).trans hcx
      have hcd : wr.cell? ⟨gd, 0, none⟩ = some (.slice (some ⟨gq, 0, none⟩) n cq2) := by
        have := (hon.bk HK2.out (Ne.symm hne)).cell 0
        simpa using this
      have hgdq : gd ≠ gq := Ne.symm hne
      have hqO : q < O.length := by rw [HOL.out]; omega
      have hg1 := limb_get (Q := Q) (T := O.drop n) hqO (List.getElem?_eq_getElem hqO)
      obtain ⟨z, hz, hcz⟩ := hbuf.cell (k := q) (List.getElem?_eq_some_iff.1 hg1).1
      have hfz := hbuf.frozen q
      have HX := Lib.hid hx
      have HA := Lib.hid hAe
      subst hAe
      have hs1 : ∀ (W : World) (o : Nat) (u : Value), (W.setCell ⟨gq, o, none⟩ u).cell? ⟨gd, 0, none⟩ = W.cell? ⟨gd, 0, none⟩ := fun W o u => World.cell?_setCell_other W _ _ u (fun e => hne (congrArg Addr.block e))
      have hs2 : ∀ (W : World) (o : Nat) (u : Value), (W.setCell ⟨gq, o, none⟩ u).cell? ⟨ba, oa + q, none⟩ = W.cell? ⟨ba, oa + q, none⟩ := fun W o u => World.cell?_setCell_other W _ _ u (fun e => hbq (congrArg Addr.block e).symm)
      clear hx hx' hg1 hz hcx hcx0 HA
      go_wp2_with fail
      go_region_held3 (fun w' => w'.cell? ⟨gd, 0, none⟩ = some (.slice (some ⟨gq, 0, none⟩) n cq2) ∧ w'.cell? ⟨ba, oa + q, none⟩ = some (.int .u32 (x' : Int))) (go_keep)
        (first | (go_at_call 125; refine (div32_any _ _ _ _ hxb hyb hr).mono ?_; rintro e w' ⟨⟨qd, r', rfl, hqd, hr', hsum⟩, k9, rfl⟩))
      go_wp2
      go_roundw
      case rel =>
        refine ⟨(q : Int) - 1, r', qd :: Q, by omega, by omega, by go_num, rfl, hr', ?_, ?_, ?_, (hon.drewN _).setCell _ _⟩
        · rw [show ((q : Int) - 1 + 1).toNat = q from by omega, ← limb_set (Q := Q) (T := O.drop n) hqO]
          exact (hbuf.drewN _).set_ q qd hqd
        · show (qd :: Q).length = _
          rw [List.length_cons, hQ.out]; omega
        · show val (qd :: Q) * y + r' = val (a.drop _)
          rw [show ((q : Int) - 1 + 1).toNat = q from by omega, drop_get HX.out]
          exact div_step hsum.out hval.out
      case measure => simp [intOf]

end Go.Proofs.YtfnibkodccfocaaGreat
