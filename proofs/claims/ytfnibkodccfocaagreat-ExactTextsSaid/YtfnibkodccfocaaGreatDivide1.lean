/- The walk of divide where the dividend is the less, and where the divisor is one limb. -/
import Derived.Test.YtfnibkodccfocaaGreatByLimb
namespace Go.Proofs.YtfnibkodccfocaaGreat
open Go.RowKit

theorem DivS.drewN {w : World} {gd base : Nat} {vq vr vb : Value} {lq lr lb : List Nat} (h : DivS w gd base vq vr vb lq lr lb) (k : Nat) : DivS (w.drewN k) gd base vq vr vb lq lr lb :=
  ⟨h.bk, h.q.keep fun _ _ => rfl, h.r.keep fun _ _ => rfl, h.b.keep fun _ _ => rfl, h.qr, h.qb, h.rb⟩
theorem DivR.drewN {gd base : Nat} {vq vr vb : Value} {q r : Nat} {w : World} {k : Nat} {e : Ending} {w' : World} (h : DivR gd base vq vr vb q r (w.drewN k) e w') : DivR gd base vq vr vb q r w e w' := by
  obtain ⟨he, vq', vr', vb', lq, lr, lb, hD, h1, h2, h3, h4, hf, hk⟩ := h
  exact ⟨he, vq', vr', vb', lq, lr, lb, hD, h1, h2, h3, h4, ⟨hf.os, hf.tape, hf.output, hf.size, hf.block⟩, hk⟩

set_option maxRecDepth 100000 in
set_option maxHeartbeats 4000000 in
theorem divide_limb (gd base n c m c2 : Nat) (A A2 : Option Addr) (a b : List Nat) (vq vr vb : Value) (lq lr lb : List Nat) (w : World) (hD : DivS w gd base vq vr vb lq lr lb) (hbase : base ≤ w.heap.size) (hgb : base ≤ gd)
    (ha : Lim w w.heap.size A n c a) (hoff : 0 < n → Off A (DS gd vq vr vb)) (na : Norm a) (hb : Lim w w.heap.size A2 m c2 b) (nb : Norm b) (hm1 : m = 1) (hle : val b ≤ val a) (hn : n ≤ 1073741824) :
    Calls Tryz.prog 97 #[.pointer (some ⟨gd, 0, none⟩), .slice A n c, .slice A2 m c2] w (DivR gd base vq vr vb (val a / val b) (val a % val b) w) := by
  have hbl := hb.len
  obtain ⟨y, rfl⟩ : ∃ y, b = [y] := by
    match b, hbl.trans hm1 with
    | [y], _ => exact ⟨y, rfl⟩
  have hvy : val [y] = y := by simp [val]
  have hyb : y < 4294967296 := hb.bd y (by simp)
  have hy0 : 0 < y := by
    have := norm_val_pos nb (by simp)
    omega
  have h0 : 0 < n := by
    rcases Nat.eq_zero_or_pos n with h | h
    · have : a = [] := List.eq_nil_of_length_eq_zero (by rw [ha.len, h])
      rw [this, val_nil] at hle; omega
    · exact h
  obtain ⟨b0, o0, x0, hAe, hb0, hx0, _, hc0⟩ := hb.at_ (k := 0) (by omega)
  obtain rfl : y = x0 := by simpa using hx0
  rw [Nat.add_zero] at hc0
  have hcmp := fun k => compareLimbs_any A A2 n c m c2 a [y] w.heap.size w.heap.size (w.drewN k) (ha.drewN k) (hb.drewN k) na nb
  have hge : decide (cmpN (val a) (val [y]) < 0) = false := by
    rcases Nat.eq_or_lt_of_le hle with h | h
    · rw [h, cmpN_self]; rfl
    · rw [cmpN_gt h]; rfl
  rw [hvy]
  have hby := fun k => byLimb_any gd base n c y A a vq vr vb lq lr lb (w.drewN k) (hD.drewN k) hbase hgb (ha.drewN k) hoff hy0 hyb h0 hn
  generalize cmpN (val a) (val [y]) = C at hcmp hge
  have HCMP := Lib.hid hcmp
  have HBY := Lib.hid hby
  subst hAe
  subst hm1
  clear hcmp hby hx0 hvy hbl hD ha hb hle
  go_enter Tryz.func97, Tryz.ntmps97
  go_wp2_with (go_at_call 60; refine (HCMP.out 0).mono ?_; rintro e w' ⟨rfl, k, rfl⟩)
  refine (HBY.out _).mono ?_
  rintro e w' hR
  have he := hR.1
  subst he
  have HR := Lib.hid hR
  clear hR
  go_wp2
  refine bodyPost_ret (results_none rfl _ _ _) rfl ?_
  exact HR.out.drewN

set_option maxRecDepth 100000 in
set_option maxHeartbeats 4000000 in
theorem divide_lt (gd base n c m c2 : Nat) (A A2 : Option Addr) (a b : List Nat) (vq vr vb : Value) (lq lr lb : List Nat) (w : World) (hD : DivS w gd base vq vr vb lq lr lb) (hbase : base ≤ w.heap.size)
    (ha : Lim w w.heap.size A n c a) (hoff : 0 < n → Off A (DS gd vq vr vb)) (na : Norm a) (hb : Lim w w.heap.size A2 m c2 b) (nb : Norm b) (hlt : val a < val b) (hn : n ≤ 1073741824) :
    Calls Tryz.prog 97 #[.pointer (some ⟨gd, 0, none⟩), .slice A n c, .slice A2 m c2] w (DivR gd base vq vr vb (val a / val b) (val a % val b) w) := by
  obtain ⟨i0, hi0, hz0, hz1, hz2⟩ := info_parts info_u32
  have hcmp := compareLimbs_any A A2 n c m c2 a b w.heap.size w.heap.size w ha hb na nb
  have hge : decide (cmpN (val a) (val b) < 0) = true := by rw [cmpN_lt hlt]; rfl
  generalize cmpN (val a) (val b) = C at hcmp hge
  rw [Nat.div_eq_of_lt hlt, Nat.mod_eq_of_lt hlt]
  obtain ⟨Aq, cq, hvq⟩ := hD.q.form
  obtain ⟨Ar, cr, hvr⟩ := hD.r.form
  generalize hnq : lq.length = nq at hvq
  generalize lr.length = nr at hvr
  have d0 := hD.bk.cell 0
  have d1 := hD.bk.cell 1
  simp only [List.getElem?_toArray, List.getElem?_cons_zero, List.getElem?_cons_succ, hvq, hvr] at d0 d1
  have f0 := hD.bk.frozen 0
  have f1 := hD.bk.frozen 1
  have HCMP := Lib.hid hcmp
  have HD := Lib.hid hD
  have HVQ := Lib.hid hvq
  have HVR := Lib.hid hvr
  have HOFF := Lib.hid hoff
  clear hcmp hnq hD hvq hvr hoff hb
  go_enter Tryz.func97, Tryz.ntmps97
  go_wp2_with fail
  refine HCMP.out.mono ?_
  rintro e w' ⟨rfl, k, rfl⟩
  have hgdlt := HD.out.bk.lt
  have hk4 : Bk ((w.drewN k).setCell ⟨gd, 0, none⟩ (.slice Aq 0 cq)) gd 118 #[.slice Aq 0 cq, vr, vb] := by
    have h1 := (HD.out.bk.drewN k).set_ 0 (.slice Aq 0 cq)
    simpa using h1
  have hne : ∀ (v : Value) (l : List Nat), OwnL w base 75 v l → ∀ j, v.ownBlock = some j → j ≠ gd := fun v l ho j hj e => ho.ne_bk HD.out.bk (by decide) (by rw [hj, e])
  have keep4 : ∀ (v : Value) (l : List Nat), OwnL w base 75 v l → OwnL ((w.drewN k).setCell ⟨gd, 0, none⟩ (.slice Aq 0 cq)) base 75 v l := by
    intro v l ho
    exact ho.keep fun j hj => Below.heap_setCell (w.drewN k) _ _ _ (hne v l ho j hj)
  have hq4 := keep4 _ _ HD.out.q
  rw [HVQ.out] at hq4
  have hq5 := hq4.cut (m := 0) (Nat.zero_le _)
  rw [List.take_zero] at hq5
  have hr4 := keep4 _ _ HD.out.r
  rw [HVR.out] at hr4
  have hr5 := hr4.cut (m := 0) (Nat.zero_le _)
  rw [List.take_zero] at hr5
  have hb4 := keep4 _ _ HD.out.b
  have hfr4 : Fr (DS gd vq vr vb) w ((w.drewN k).setCell ⟨gd, 0, none⟩ (.slice Aq 0 cq)) := ((Fr.refl _ w).drewN k).setCell (fun _ => .inl rfl) _ _
  have hsrc := ha.fr hfr4 HOFF.out
  have hsz4 : ((w.drewN k).setCell ⟨gd, 0, none⟩ (.slice Aq 0 cq)).heap.size = w.heap.size := by simp
  have hown4 : (Value.slice Ar 0 cr).ownBlock = vr.ownBlock := by rw [HVR.out]; cases Ar <;> rfl
  have hc5 : ∀ w5, ((w.drewN k).setCell ⟨gd, 0, none⟩ (.slice Aq 0 cq)).grownBy w5 (.slice Ar 0 cr : Value).ownBlock → Bk w5 gd 118 #[.slice Aq 0 cq, vr, vb] ∧ w5.cell? ⟨gd, 1, none⟩ = some (.slice Ar nr cr) ∧ w5.frozen? ⟨gd, 1, none⟩ = false := by
    intro w5 hg
    rw [hown4] at hg
    have h1 : Bk w5 gd 118 #[.slice Aq 0 cq, vr, vb] := (hg.block gd hk4.lt (fun e => hne vr lr HD.out.r gd e.symm rfl)).trans hk4
    have h2 := h1.cell 1
    rw [HVR.out] at h2
    exact ⟨h1, by simpa using h2, h1.frozen 1⟩
  have HC5 := Lib.hid hc5
  have HOWN4 := Lib.hid hown4
  have HSZ4 := Lib.hid hsz4
  have HK4 := Lib.hid hk4
  have HNE := Lib.hid hne
  have HQ5 := Lib.hid hq5
  have HR5 := Lib.hid hr5
  have HB4 := Lib.hid hb4
  have HFR4 := Lib.hid hfr4
  have HSRC := Lib.hid hsrc
  have HA := Lib.hid ha
  clear hk4 hne keep4 hq4 hq5 hr4 hr5 hb4 hfr4 hsrc hsz4 ha hc5 hown4
  go_wp2_with (at_builtin; refine wpList_append_u32 _ rfl (.tmp 25) (.tmp 26) _ rfl base 75 i0 Tryz.underlying22 hi0 hz0 hz1 hz2 (.slice Ar 0 cr) [] rfl HR5.out _ A n c a rfl HSRC.out (by simp; omega) (by rw [HSZ4.out]; exact hbase) ?_; intro v5 w5 hown5 hgrow5 hat5; obtain ⟨hk5, hcd5, hfd5⟩ := HC5.out w5 hgrow5; obtain ⟨A5, c5, hv5, hl5⟩ := hown5.lim (Nat.le_refl _); subst hv5; have HOWN5 := Lib.hid hown5; have HGROW5 := Lib.hid hgrow5; have HAT5 := Lib.hid hat5; have HK5 := Lib.hid hk5; have HL5 := Lib.hid hl5; clear hown5 hgrow5 hat5 hk5 hl5)
  refine bodyPost_ret (results_none rfl _ _ _) rfl ?_
  have hgrow5 := HGROW5.out
  rw [HOWN4.out] at hgrow5
  have hat5 := HAT5.out
  rw [HOWN4.out, HSZ4.out] at hat5
  have hnr := HNE.out _ _ HD.out.r
  have hA5 : ∀ j, (Value.slice A5 ([] ++ a).length c5).ownBlock = some j → vr.ownBlock = some j ∨ j = w.heap.size := by
    intro j hj
    rcases hat5 with h | h
    · left; rw [← h]; exact hj
    · right
      rw [hj] at h
      exact Option.some.inj h
  have hqo : (Value.slice Aq 0 cq).ownBlock = vq.ownBlock := by rw [HVQ.out]; cases Aq <;> rfl
  have hkeep : ∀ (v : Value) (l : List Nat), OwnL ((w.drewN k).setCell ⟨gd, 0, none⟩ (.slice Aq 0 cq)) base 75 v l → (∀ j, v.ownBlock = some j → j ≠ gd ∧ vr.ownBlock ≠ some j) →
      OwnL (w5.setCell ⟨gd, 1, none⟩ (.slice A5 ([] ++ a).length c5)) base 75 v l := by
    intro v l ho hj
    refine ho.keep fun j hv => ?_
    rw [Below.heap_setCell _ _ _ _ (hj j hv).1]
    exact hgrow5.block j (ho.block j hv).2 (fun e => (hj j hv).2 e.symm)
  refine ⟨rfl, .slice Aq 0 cq, .slice A5 ([] ++ a).length c5, vb, [], [] ++ a, lb, ⟨?_, ?_, ?_, ?_, ?_, ?_, ?_⟩, norm_nil, rfl, na, rfl, ?_, ?_⟩
  · have h1 := HK5.out.set_ 1 (.slice A5 ([] ++ a).length c5)
    simpa using h1
  · exact hkeep _ _ HQ5.out fun j hj => ⟨by rw [hqo] at hj; exact HNE.out _ _ HD.out.q j hj, by rw [hqo] at hj; exact HD.out.qr j hj⟩
  · refine HOWN5.out.keep fun j hj => Below.heap_setCell _ _ _ _ ?_
    rcases hA5 j hj with h | h
    · exact hnr j h
    · show j ≠ gd; omega
  · exact hkeep _ _ HB4.out fun j hj => ⟨HNE.out _ _ HD.out.b j hj, fun e => HD.out.rb j e hj⟩
  · intro j hj hj2
    rw [hqo] at hj
    rcases hA5 j hj2 with h | h
    · exact HD.out.qr j hj h
    · have := (HD.out.q.block j hj).2; omega
  · intro j hj hj2
    rw [hqo] at hj
    exact HD.out.qb j hj hj2
  · intro j hj hj2
    rcases hA5 j hj with h | h
    · exact HD.out.rb j h hj2
    · have := (HD.out.b.block j hj2).2; omega
  · exact (HFR4.out.grown hgrow5 (fun j _ e => .inr (.inr (.inl e)))).setCell (fun _ => .inl rfl) _ _
  · intro j hj
    rcases hj with h | h | h | h
    · exact .inl (.inl h)
    · rw [hqo] at h
      exact .inl (.inr (.inl h))
    · rcases hA5 j h with h2 | h2
      · exact .inl (.inr (.inr (.inl h2)))
      · exact .inr (by omega)
    · exact .inl (.inr (.inr (.inr h)))

end Go.Proofs.YtfnibkodccfocaaGreat
