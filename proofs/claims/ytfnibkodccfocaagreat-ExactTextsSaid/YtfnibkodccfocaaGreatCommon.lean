/- The walk of commonLimbs: the greatest common divisor of two numbers, in new memory. -/
import Derived.Test.YtfnibkodccfocaaGreatWord
import Derived.Deep.LoopGhost
import Derived.Deep.RegionHeld3
import Derived.Deep.AppendLies
namespace Go.Proofs.YtfnibkodccfocaaGreat
open Go.RowKit

theorem step_append_u32 {P : Program} (w : World) {ops : Array Oper} {o : Oper} {a : Act} {K : Act → World → Prop} {Q : Exit → Act → World → Prop} {E : Prop} (hgd : o.guard = none) (s x : Operand) (t : TypeId)
    (ho : o.op = .call { callee := .builtin .append, args := #[s, x], argTypes := #[t, t] })
    (base : Nat) (e : TypeId) (i : TypeInfo) (ht : P.underlying t = some (.slice e)) (hi : P.info? e = some i) (hz : i.zero = some (.int .u32 0)) (hsize : i.size = 1) (hby : i.bytes = 4)
    (v : Value) (l : List Nat) (hs : a.eval s = v) (hown : OwnL w base e v l) (B : Nat) (A : Option Addr) (m c : Nat) (news : List Nat) (hx : a.eval x = .slice A m c) (hl : Lim w B A m c news) (hlen : l.length + m ≤ 1099511627776) (hbase : base ≤ w.heap.size)
    (h : ∀ v' w', OwnL w' base e v' (l ++ news) → w.grownBy w' v.ownBlock → (v'.ownBlock = v.ownBlock ∨ v'.ownBlock = some w.heap.size) → K (a.put o.dst v') w') :
    if Region.wanted o (yielded ops a.tmps) = true then Oper.wp P o a w K Q else E := by
  have hw : Region.wanted o (yielded ops a.tmps) = true := by simp [Region.wanted, hgd]
  rw [if_pos hw]
  exact wp_append_u32 w s x t ho base e i ht hi hz hsize hby v l hs hown B A m c news hx hl hlen hbase h

/-- The state of commonLimbs at a round's head. -/
structure GcdS (w0 w : World) (gd : Nat) (va vb vq vr vy : Value) (la lb lq lr ly : List Nat) : Prop where
  d : DivS w gd w0.heap.size vq vr vy lq lr ly
  a : OwnL w w0.heap.size 75 va la
  b : OwnL w w0.heap.size 75 vb lb
  na : Norm la
  nb : Norm lb
  ab : Ap va vb
  aq : Ap va vq
  ar : Ap va vr
  ay : Ap va vy
  bq : Ap vb vq
  br : Ap vb vr
  by_ : Ap vb vy
  gd : w0.heap.size ≤ gd
  below : Below w0.heap.size w0 w

theorem own_block_eq {A : Option Addr} {n c n' c' : Nat} : (Value.slice A n c).ownBlock = (Value.slice A n' c').ownBlock := by cases A <;> rfl
theorem own_some {A : Option Addr} {n c : Nat} {ad : Addr} (h : A = some ad) : (Value.slice A n c).ownBlock = some ad.block := by subst h; rfl

theorem OwnL.lim' {w : World} {base : Nat} {t : TypeId} {A : Option Addr} {n c : Nat} {l : List Nat} (h : OwnL w base t (.slice A n c) l) : Lim w w.heap.size A n c l := by
  obtain ⟨A', c', e, hl⟩ := h.lim (Nat.le_refl _)
  injection e with e1 e2 e3
  subst e1; subst e2; subst e3
  exact hl
theorem not_DS {w : World} {base gd : Nat} {v vq vr vy : Value} {l : List Nat} {cs : Array Value} (h : OwnL w base 75 v l) (hk : Bk w gd 118 cs) (h1 : Ap v vq) (h2 : Ap v vr) (h3 : Ap v vy) : ∀ k, v.ownBlock = some k → ¬ DS gd vq vr vy k := by
  intro k hv hS
  rcases hS with rfl | hS | hS | hS
  · exact h.ne_bk hk (by decide) hv
  · exact h1 k hv hS
  · exact h2 k hv hS
  · exact h3 k hv hS
theorem off_own {A : Option Addr} {n c : Nat} {S : Nat → Prop} (h : ∀ k, (Value.slice A n c).ownBlock = some k → ¬ S k) : Off A S := fun _ e => h _ (own_some e)


set_option maxRecDepth 100000 in
set_option maxHeartbeats 4000000 in
theorem commonLimbs_any (n c m c2 : Nat) (A A2 : Option Addr) (a b : List Nat) (w : World) (ha : Lim w w.heap.size A n c a) (na : Norm a) (hb : Lim w w.heap.size A2 m c2 b) (nb : Norm b) (hn : n ≤ 536870912) (hm : m ≤ 536870912) :
    Calls Tryz.prog 98 #[.slice A n c, .slice A2 m c2] w (NatR (Nat.gcd (val a) (val b)) w) := by
  obtain ⟨i0, hi0, hz0, hz1, hz2⟩ := info_parts info_u32
  have HLA := Lib.hid ha.len
  have HLB := Lib.hid hb.len
  have HA := Lib.hid ha
  have HB := Lib.hid hb
  clear ha hb
  go_enter Tryz.func98, Tryz.ntmps98
  go_wp2_with fail
  refine (clone_any A n c a w.heap.size w HA.out (Nat.le_refl _) (by omega)).mono ?_
  rintro e w1 ⟨hB1, va, rfl, ho1⟩
  obtain ⟨Aa, ca, hva⟩ := ho1.form
  rw [hva] at ho1 ⊢
  clear hva
  go_wp2_with fail
  refine (clone_any A2 m c2 b w1.heap.size w1 (HB.out.below hB1 (Nat.le_refl _) hB1.size) (Nat.le_refl _) (by omega)).mono ?_
  rintro e w2 ⟨hB2, vb, rfl, ho2⟩
  obtain ⟨Ab, cb, hvb⟩ := ho2.form
  rw [hvb] at ho2 ⊢
  clear hvb
  have hg0 : GcdS w (w2.alloc (.cells #[.slice none 0 0, .slice none 0 0, .slice none 0 0] 118)) w2.heap.size (.slice Aa a.length ca) (.slice Ab b.length cb) (.slice none 0 0) (.slice none 0 0) (.slice none 0 0) a b [] [] [] := by
    have hap : ∀ v : Value, Ap v (.slice none 0 0) := fun v k _ h => by simp [Value.ownBlock] at h
    have hap2 : ∀ v : Value, Ap (.slice none 0 0) v := fun v k h => by simp [Value.ownBlock] at h
    have hs1 := hB1.size
    have hs2 := hB2.size
    refine ⟨⟨Bk.alloc_ _ _ _, OwnL.nil_ _ _ _, OwnL.nil_ _ _ _, OwnL.nil_ _ _ _, hap _, hap _, hap _⟩, ?_, ?_, na, nb, ?_, hap _, hap _, hap _, hap _, hap _, hap _, by omega, ?_⟩
    · refine ho1.keep fun k hk => ?_
      have := (ho1.block k hk).2
      rw [Below.heap_alloc _ _ _ (by omega)]
      exact hB2.block k this
    · rcases ho2 with ⟨h1, h2⟩ | ⟨g, n', c', O, h1, h2, h3, h4⟩
      · exact .inl ⟨h1, h2⟩
      · exact .inr ⟨g, n', c', O, h1, by omega, h3.alloc _, h4⟩
    · intro k h1 h2
      have := (ho1.block k h1).2
      have := (ho2.block k h2).1
      omega
    · exact (hB1.trans (hB2.mono hB1.size)).alloc (by omega) _
  have HG0 := Lib.hid hg0
  have HB12 := Lib.hid (Nat.le_trans hB1.size hB2.size)
  clear hg0 ho1 ho2 hB1 hB2 na nb
  go_wp2_with fail
  go_loopg [0, 1] (val b) (fun g sa sb wr => ∃ (va vb vq vr vy : Value) (la lb lq lr ly : List Nat), sa = va ∧ sb = vb ∧ Hid (GcdS w wr w2.heap.size va vb vq vr vy la lb lq lr ly) ∧ Hid (Nat.gcd (val a) (val b) = Nat.gcd (val la) (val lb)) ∧ val lb ≤ g ∧ la.length ≤ 536870912 ∧ lb.length ≤ 536870912)
  case atStart => exact ⟨_, _, _, _, _, _, _, _, _, _, rfl, rfl, HG0.out, rfl, Nat.le_refl _, by rw [HLA.out]; exact hn, by rw [HLB.out]; exact hm⟩
  case round =>
    obtain ⟨va, vb, vq, vr, vy, la, lb, lq, lr, ly, rfl, rfl, HG, hgcd, hgk, hla, hlb⟩ := hrel
    obtain ⟨A1, c1, hva⟩ := HG.out.a.form
    obtain ⟨A2', c2', hvb⟩ := HG.out.b.form
    subst hva
    subst hvb
    have hA0 := HG.out.a.lim'
    have hB0 := HG.out.b.lim'
    have hwr := HG.out.below.size
    rcases Nat.eq_zero_or_pos lb.length with h0 | h0
    · have hlb0 : lb = [] := List.eq_nil_of_length_eq_zero h0
      have hg2 : Hid (val la = Nat.gcd (val a) (val b)) := by
        show _ = _
        rw [hgcd.out, hlb0, val_nil, Nat.gcd_zero_right]
      have HA0 := Lib.hid hA0
      have H0 : Hid (lb.length = 0) := h0
      have hd : decide (0 < lb.length) = false := by simp; omega
      rw [H0.out]
      clear hlb0 hA0 hB0 h0
      go_wp2
      go_ret
      exact ⟨HG.out.below, _, _, _, _, rfl, HA0.out, HG.out.na, hg2.out⟩
    · by_cases hsm : la.length ≤ 2 ∧ lb.length ≤ 2
      · obtain ⟨h1, h2⟩ := hsm
        have hva := val_lt hA0.bd
        have hvb := val_lt hB0.bd
        have hw2 : W 2 = 18446744073709551616 := rfl
        have hva2 : val la < 18446744073709551616 := by have := W_mono h1; omega
        have hvb2 : val lb < 18446744073709551616 := by have := W_mono h2; omega
        have hgp : Nat.gcd (val la) (val lb) < 18446744073709551616 := by
          have hbp := norm_val_pos HG.out.nb (by rintro rfl; simp at h0)
          exact Nat.lt_of_le_of_lt (Nat.gcd_le_right _ hbp) hvb2
        have HA0 := Lib.hid hA0
        have HB0 := Lib.hid hB0
        have HV := Lib.hid hva2
        have HW := Lib.hid hvb2
        have HGP := Lib.hid hgp
        clear hA0 hB0 hva hvb hw2 hva2 hvb2 hgp hgk
        go_wp2_with fail
        refine (word_any _ _ _ _ _ _ HA0.out h1).mono ?_
        rintro e w' ⟨rfl, rfl⟩
        go_wp2_with fail
        refine (word_any _ _ _ _ _ _ HB0.out h2).mono ?_
        rintro e w' ⟨rfl, rfl⟩
        go_wp2_with fail
        refine (commonWord_any _ _ _ HV.out HW.out).mono ?_
        rintro e w' ⟨rfl, k9, rfl⟩
        go_wp2_with fail
        refine (limbsOf_any _ _ HGP.out).mono ?_
        rintro e w' ⟨hb9, A9, n9, c9, l9, rfl, hl9, hn9, hv9⟩
        have HL9 := Lib.hid hl9
        have HV9 := Lib.hid hv9
        have HB9 : Below w.heap.size w w' := (Below.drewN HG.out.below k9).trans (hb9.mono hwr)
        have HBX := Lib.hid HB9
        clear hl9 hv9 hb9 HB9
        go_wp2
        go_ret
        exact ⟨HBX.out, _, _, _, _, rfl, HL9.out, hn9, by rw [HV9.out, hgcd.out]⟩
      · have hnd1 := not_DS HG.out.a HG.out.d.bk HG.out.aq HG.out.ar HG.out.ay
        have hnd2 := not_DS HG.out.b HG.out.d.bk HG.out.bq HG.out.br HG.out.by_
        have hbp := norm_val_pos HG.out.nb (by rintro rfl; simp at h0)
        have hdiv := divide_any w2.heap.size w.heap.size _ c1 _ c2' A1 A2' la lb vq vr vy lq lr ly wr HG.out.d hwr HG.out.gd hA0 (fun _ => off_own hnd1) HG.out.na hB0 (fun _ => off_own hnd2) HG.out.nb hbp hla
        have HDIV := Lib.hid hdiv
        have HND1 := Lib.hid hnd1
        have HND2 := Lib.hid hnd2
        have HBP := Lib.hid hbp
        clear hdiv hnd1 hnd2 hA0 hB0 hbp
        rcases Nat.lt_or_ge 2 la.length with h1 | h1
        · have hd1 : decide (la.length ≤ 2) = false := by simp; omega
          go_wp2_with fail
          refine HDIV.out.mono ?_
          rintro e w5 ⟨rfl, vq5, vr5, vy5, lq5, lr5, ly5, hD5, n1, v1, n2, v2, hF5, hS5⟩
          obtain ⟨Ar5, cr5, hvr5⟩ := hD5.r.form
          have ha5 : OwnL w5 w.heap.size 75 (.slice A1 la.length c1) la := HG.out.a.keep fun k hk => hF5.block k (HG.out.a.block k hk).2 (HND1.out k hk)
          have hb5 : OwnL w5 w.heap.size 75 (.slice A2' lb.length c2') lb := HG.out.b.keep fun k hk => hF5.block k (HG.out.b.block k hk).2 (HND2.out k hk)
          have e5 : w5.cell? ⟨w2.heap.size, 1, none⟩ = some (.slice Ar5 lr5.length cr5) := by
            have := hD5.bk.cell 1
            rw [hvr5] at this
            simpa using this
          have hsrc : Lim w5.drew w5.heap.size Ar5 lr5.length cr5 lr5 := by
            have := hD5.r
            rw [hvr5] at this
            exact this.lim'.drew
          have hown := ha5.cut (m := 0) (Nat.zero_le _)
          rw [List.take_zero] at hown
          have hown5 : OwnL w5.drew w.heap.size 75 (.slice A1 0 c1) [] := hown.keep fun _ _ => rfl
          have hl5 : lr5.length ≤ lb.length := by
            rcases Nat.lt_or_ge lb.length lr5.length with h | h
            · exfalso
              have h3 := norm_len_lt HG.out.b.bd n2 h
              have h4 := Nat.mod_lt (val la) HBP.out
              omega
            · exact h
          have hnd5 : ∀ k, (Value.slice A1 0 c1).ownBlock = some k → ¬ DS w2.heap.size vq5 vr5 vy5 k ∧ k < w5.heap.size ∧ k < wr.heap.size := by
            intro k hk
            rw [own_block_eq (n' := la.length) (c' := c1)] at hk
            refine ⟨fun h => ?_, (ha5.block k hk).2, (HG.out.a.block k hk).2⟩
            rcases hS5 k h with h3 | h3
            · exact HND1.out k hk h3
            · have := (HG.out.a.block k hk).2; omega
          have hkp : ∀ w6, w5.drew.grownBy w6 (.slice A1 0 c1 : Value).ownBlock → w6.cell? ⟨w2.heap.size, 1, none⟩ = some (.slice Ar5 lr5.length cr5) := by
            intro w6 hg
            refine (World.cell?_of_block (a := ⟨w2.heap.size, 1, none⟩) (hg.block w2.heap.size hD5.bk.lt (fun e => (hnd5 _ e.symm).1 (.inl rfl)))).trans e5
          have hsz5 := hF5.size
          have HD5 := Lib.hid hD5
          have HF5 := Lib.hid hF5
          have HS5 := Lib.hid hS5
          have HVR5 := Lib.hid hvr5
          have HA5 := Lib.hid ha5
          have HB5 := Lib.hid hb5
          have HSRC := Lib.hid hsrc
          have HOWN5 := Lib.hid hown5
          have HND5 := Lib.hid hnd5
          have HKP := Lib.hid hkp
          have HV2 := Lib.hid v2
          clear hD5 hF5 hS5 hvr5 ha5 hb5 hsrc hown hown5 hnd5 hkp n1 v1 v2
          go_wp2_with fail
          go_region_held3 (fun w' => w'.cell? ⟨w2.heap.size, 1, none⟩ = some (.slice Ar5 lr5.length cr5)) (go_keep)
            ((refine step_append_u32 _ (by rfl) _ _ _ (by rfl) w.heap.size 75 i0 Tryz.underlying22 hi0 hz0 hz1 hz2 (.slice A1 0 c1) [] (by rfl) HOWN5.out w5.heap.size Ar5 lr5.length cr5 lr5 (by rfl) HSRC.out (by simp; omega) (by simp; omega) ?_; intro v6 w6 hown6 hgrow6 hat6; have hq6 := HKP.out _ hgrow6; have HOWN6 := Lib.hid hown6; have HGROW6 := Lib.hid hgrow6; have HAT6 := Lib.hid hat6; clear hown6 hgrow6 hat6))
          go_wp2
          go_roundg (val lr5)
          case measure =>
            have h4 := Nat.mod_lt (val la) HBP.out
            have := HV2.out
            omega
          case rel =>
            have hat6 := HAT6.out
            have hgrow6 := HGROW6.out
            have hv6 : ∀ k, v6.ownBlock = some k → (Value.slice A1 0 c1).ownBlock = some k ∨ k = w5.heap.size := by
              intro k hk
              rcases hat6 with h | h
              · left; rw [← h]; exact hk
              · right
                rw [hk] at h
                exact Option.some.inj h
            have hS6 : ∀ k, DS w2.heap.size vq5 vr5 vy5 k → k < w5.heap.size ∧ some k ≠ (Value.slice A1 0 c1).ownBlock := by
              intro k hk
              refine ⟨?_, fun e => (HND5.out k e.symm).1 hk⟩
              rcases hk with h | h | h | h
              · rw [h]; exact HD5.out.bk.lt
              · exact (HD5.out.q.block k h).2
              · exact (HD5.out.r.block k h).2
              · exact (HD5.out.b.block k h).2
            have hvb6 : ∀ k, (Value.slice A2' lb.length c2').ownBlock = some k → k < wr.heap.size ∧ ¬ DS w2.heap.size vq5 vr5 vy5 k := by
              intro k hk
              have h1 := (HG.out.b.block k hk).2
              refine ⟨h1, fun h => ?_⟩
              rcases HS5.out k h with h3 | h3
              · exact HND2.out k hk h3
              · omega
            have hap6 : ∀ v, (∀ k, v.ownBlock = some k → DS w2.heap.size vq5 vr5 vy5 k) → Ap (.slice A2' lb.length c2') v ∧ Ap v6 v := by
              intro v hv
              refine ⟨fun k h1 h2 => (hvb6 k h1).2 (hv k h2), fun k h1 h2 => ?_⟩
              have h3 := hS6 k (hv k h2)
              rcases hv6 k h1 with h | h
              · exact h3.2 h.symm
              · omega
            have hq6' := hap6 vq5 (fun k h => .inr (.inl h))
            have hr6' := hap6 vr5 (fun k h => .inr (.inr (.inl h)))
            have hy6' := hap6 vy5 (fun k h => .inr (.inr (.inr h)))
            have hDS0 : ∀ k, k < w.heap.size → ¬ DS w2.heap.size vq vr vy k := by
              intro k hk h
              have hgd := HG.out.gd
              rcases h with h | h | h | h
              · omega
              · have := (HG.out.d.q.block k h).1; omega
              · have := (HG.out.d.r.block k h).1; omega
              · have := (HG.out.d.b.block k h).1; omega
            have hbel : Below w.heap.size w w6 := by
              refine (HG.out.below.trans (HF5.out.below hwr hDS0)).trans (((Below.refl w.heap.size w5).drew).grown hgrow6 (by simp; omega) (fun k e => ?_))
              rw [own_block_eq (n' := la.length) (c' := c1)] at e
              exact (HA5.out.block k e).1
            refine ⟨_, _, vq5, vr5, vy5, lb, [] ++ lr5, lq5, lr5, ly5, rfl, rfl, ⟨⟨?_, ?_, ?_, ?_, HD5.out.qr, HD5.out.qb, HD5.out.rb⟩, ?_, HOWN6.out, HG.out.nb, n2, ?_, hq6'.1, hr6'.1, hy6'.1, hq6'.2, hr6'.2, hy6'.2, HG.out.gd, hbel⟩, ?_, Nat.le_refl _, hlb, Nat.le_trans hl5 hlb⟩
            · exact (hgrow6.block _ HD5.out.bk.lt (hS6 _ (.inl rfl)).2).trans HD5.out.bk
            · exact HD5.out.q.keep fun k hk => hgrow6.block k (HD5.out.q.block k hk).2 (hS6 k (.inr (.inl hk))).2
            · exact HD5.out.r.keep fun k hk => hgrow6.block k (HD5.out.r.block k hk).2 (hS6 k (.inr (.inr (.inl hk)))).2
            · exact HD5.out.b.keep fun k hk => hgrow6.block k (HD5.out.b.block k hk).2 (hS6 k (.inr (.inr (.inr hk)))).2
            · refine HB5.out.keep fun k hk => hgrow6.block k (HB5.out.block k hk).2 (fun e => ?_)
              rw [own_block_eq (n' := la.length) (c' := c1)] at e
              exact HG.out.ab k e.symm hk
            · intro k h1 h2
              rcases hv6 k h2 with h | h
              · rw [own_block_eq (n' := la.length) (c' := c1)] at h
                exact HG.out.ab k h h1
              · have := (HB5.out.block k h1).2; omega
            · show Nat.gcd (val a) (val b) = Nat.gcd (val lb) (val lr5)
              rw [hgcd.out, HV2.out, Nat.gcd_comm, Nat.gcd_rec, Nat.gcd_comm]
        · have h2 : 2 < lb.length := by omega
          go_wp2_with fail
          refine HDIV.out.mono ?_
          rintro e w5 ⟨rfl, vq5, vr5, vy5, lq5, lr5, ly5, hD5, n1, v1, n2, v2, hF5, hS5⟩
          obtain ⟨Ar5, cr5, hvr5⟩ := hD5.r.form
          have ha5 : OwnL w5 w.heap.size 75 (.slice A1 la.length c1) la := HG.out.a.keep fun k hk => hF5.block k (HG.out.a.block k hk).2 (HND1.out k hk)
          have hb5 : OwnL w5 w.heap.size 75 (.slice A2' lb.length c2') lb := HG.out.b.keep fun k hk => hF5.block k (HG.out.b.block k hk).2 (HND2.out k hk)
          have e5 : w5.cell? ⟨w2.heap.size, 1, none⟩ = some (.slice Ar5 lr5.length cr5) := by
            have := hD5.bk.cell 1
            rw [hvr5] at this
            simpa using this
          have hsrc : Lim w5.drew w5.heap.size Ar5 lr5.length cr5 lr5 := by
            have := hD5.r
            rw [hvr5] at this
            exact this.lim'.drew
          have hown := ha5.cut (m := 0) (Nat.zero_le _)
          rw [List.take_zero] at hown
          have hown5 : OwnL w5.drew w.heap.size 75 (.slice A1 0 c1) [] := hown.keep fun _ _ => rfl
          have hl5 : lr5.length ≤ lb.length := by
            rcases Nat.lt_or_ge lb.length lr5.length with h | h
            · exfalso
              have h3 := norm_len_lt HG.out.b.bd n2 h
              have h4 := Nat.mod_lt (val la) HBP.out
              omega
            · exact h
          have hnd5 : ∀ k, (Value.slice A1 0 c1).ownBlock = some k → ¬ DS w2.heap.size vq5 vr5 vy5 k ∧ k < w5.heap.size ∧ k < wr.heap.size := by
            intro k hk
            rw [own_block_eq (n' := la.length) (c' := c1)] at hk
            refine ⟨fun h => ?_, (ha5.block k hk).2, (HG.out.a.block k hk).2⟩
            rcases hS5 k h with h3 | h3
            · exact HND1.out k hk h3
            · have := (HG.out.a.block k hk).2; omega
          have hkp : ∀ w6, w5.drew.grownBy w6 (.slice A1 0 c1 : Value).ownBlock → w6.cell? ⟨w2.heap.size, 1, none⟩ = some (.slice Ar5 lr5.length cr5) := by
            intro w6 hg
            refine (World.cell?_of_block (a := ⟨w2.heap.size, 1, none⟩) (hg.block w2.heap.size hD5.bk.lt (fun e => (hnd5 _ e.symm).1 (.inl rfl)))).trans e5
          have hsz5 := hF5.size
          have HD5 := Lib.hid hD5
          have HF5 := Lib.hid hF5
          have HS5 := Lib.hid hS5
          have HVR5 := Lib.hid hvr5
          have HA5 := Lib.hid ha5
          have HB5 := Lib.hid hb5
          have HSRC := Lib.hid hsrc
          have HOWN5 := Lib.hid hown5
          have HND5 := Lib.hid hnd5
          have HKP := Lib.hid hkp
          have HV2 := Lib.hid v2
          clear hD5 hF5 hS5 hvr5 ha5 hb5 hsrc hown hown5 hnd5 hkp n1 v1 v2
          go_wp2_with fail
          go_region_held3 (fun w' => w'.cell? ⟨w2.heap.size, 1, none⟩ = some (.slice Ar5 lr5.length cr5)) (go_keep)
            ((refine step_append_u32 _ (by rfl) _ _ _ (by rfl) w.heap.size 75 i0 Tryz.underlying22 hi0 hz0 hz1 hz2 (.slice A1 0 c1) [] (by rfl) HOWN5.out w5.heap.size Ar5 lr5.length cr5 lr5 (by rfl) HSRC.out (by simp; omega) (by simp; omega) ?_; intro v6 w6 hown6 hgrow6 hat6; have hq6 := HKP.out _ hgrow6; have HOWN6 := Lib.hid hown6; have HGROW6 := Lib.hid hgrow6; have HAT6 := Lib.hid hat6; clear hown6 hgrow6 hat6))
          go_wp2
          go_roundg (val lr5)
          case measure =>
            have h4 := Nat.mod_lt (val la) HBP.out
            have := HV2.out
            omega
          case rel =>
            have hat6 := HAT6.out
            have hgrow6 := HGROW6.out
            have hv6 : ∀ k, v6.ownBlock = some k → (Value.slice A1 0 c1).ownBlock = some k ∨ k = w5.heap.size := by
              intro k hk
              rcases hat6 with h | h
              · left; rw [← h]; exact hk
              · right
                rw [hk] at h
                exact Option.some.inj h
            have hS6 : ∀ k, DS w2.heap.size vq5 vr5 vy5 k → k < w5.heap.size ∧ some k ≠ (Value.slice A1 0 c1).ownBlock := by
              intro k hk
              refine ⟨?_, fun e => (HND5.out k e.symm).1 hk⟩
              rcases hk with h | h | h | h
              · rw [h]; exact HD5.out.bk.lt
              · exact (HD5.out.q.block k h).2
              · exact (HD5.out.r.block k h).2
              · exact (HD5.out.b.block k h).2
            have hvb6 : ∀ k, (Value.slice A2' lb.length c2').ownBlock = some k → k < wr.heap.size ∧ ¬ DS w2.heap.size vq5 vr5 vy5 k := by
              intro k hk
              have h1 := (HG.out.b.block k hk).2
              refine ⟨h1, fun h => ?_⟩
              rcases HS5.out k h with h3 | h3
              · exact HND2.out k hk h3
              · omega
            have hap6 : ∀ v, (∀ k, v.ownBlock = some k → DS w2.heap.size vq5 vr5 vy5 k) → Ap (.slice A2' lb.length c2') v ∧ Ap v6 v := by
              intro v hv
              refine ⟨fun k h1 h2 => (hvb6 k h1).2 (hv k h2), fun k h1 h2 => ?_⟩
              have h3 := hS6 k (hv k h2)
              rcases hv6 k h1 with h | h
              · exact h3.2 h.symm
              · omega
            have hq6' := hap6 vq5 (fun k h => .inr (.inl h))
            have hr6' := hap6 vr5 (fun k h => .inr (.inr (.inl h)))
            have hy6' := hap6 vy5 (fun k h => .inr (.inr (.inr h)))
            have hDS0 : ∀ k, k < w.heap.size → ¬ DS w2.heap.size vq vr vy k := by
              intro k hk h
              have hgd := HG.out.gd
              rcases h with h | h | h | h
              · omega
              · have := (HG.out.d.q.block k h).1; omega
              · have := (HG.out.d.r.block k h).1; omega
              · have := (HG.out.d.b.block k h).1; omega
            have hbel : Below w.heap.size w w6 := by
              refine (HG.out.below.trans (HF5.out.below hwr hDS0)).trans (((Below.refl w.heap.size w5).drew).grown hgrow6 (by simp; omega) (fun k e => ?_))
              rw [own_block_eq (n' := la.length) (c' := c1)] at e
              exact (HA5.out.block k e).1
            refine ⟨_, _, vq5, vr5, vy5, lb, [] ++ lr5, lq5, lr5, ly5, rfl, rfl, ⟨⟨?_, ?_, ?_, ?_, HD5.out.qr, HD5.out.qb, HD5.out.rb⟩, ?_, HOWN6.out, HG.out.nb, n2, ?_, hq6'.1, hr6'.1, hy6'.1, hq6'.2, hr6'.2, hy6'.2, HG.out.gd, hbel⟩, ?_, Nat.le_refl _, hlb, Nat.le_trans hl5 hlb⟩
            · exact (hgrow6.block _ HD5.out.bk.lt (hS6 _ (.inl rfl)).2).trans HD5.out.bk
            · exact HD5.out.q.keep fun k hk => hgrow6.block k (HD5.out.q.block k hk).2 (hS6 k (.inr (.inl hk))).2
            · exact HD5.out.r.keep fun k hk => hgrow6.block k (HD5.out.r.block k hk).2 (hS6 k (.inr (.inr (.inl hk)))).2
            · exact HD5.out.b.keep fun k hk => hgrow6.block k (HD5.out.b.block k hk).2 (hS6 k (.inr (.inr (.inr hk)))).2
            · refine HB5.out.keep fun k hk => hgrow6.block k (HB5.out.block k hk).2 (fun e => ?_)
              rw [own_block_eq (n' := la.length) (c' := c1)] at e
              exact HG.out.ab k e.symm hk
            · intro k h1 h2
              rcases hv6 k h2 with h | h
              · rw [own_block_eq (n' := la.length) (c' := c1)] at h
                exact HG.out.ab k h h1
              · have := (HB5.out.block k h1).2; omega
            · show Nat.gcd (val a) (val b) = Nat.gcd (val lb) (val lr5)
              rw [hgcd.out, HV2.out, Nat.gcd_comm, Nat.gcd_rec, Nat.gcd_comm]

end Go.Proofs.YtfnibkodccfocaaGreat
