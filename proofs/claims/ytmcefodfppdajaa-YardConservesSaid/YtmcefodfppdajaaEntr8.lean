/- Chapter 8, walks: the entries of shelves, in order. -/
import Derived.Test.YtmcefodfppdajaaSortR8
namespace Go.Proofs.Ytmcefodfppdajaa
open Go.RowKit Go.Maps Go.Deep

/-- What has been taken from the shelves so far. -/
structure Got (c : Sh → Int) (lf : Sh → Bool) (es : List Q4) : Prop where
  nodup : (es.map keyQ).Nodup
  each : ∀ x ∈ es, shOk (keyQ x) ∧ nz c (keyQ x) = some x.c ∧ lf (keyQ x) = false
  all : ∀ k, shOk k → (nz c k).isSome = true → lf k = false → ∃ x ∈ es, keyQ x = k
theorem Got.start (c : Sh → Int) : Got c (fun x => (nz c x).isSome) [] := ⟨List.nodup_nil, fun x h => by simp at h, fun k _ h1 h2 => by rw [h1] at h2; cases h2⟩
theorem Got.step {c : Sh → Int} {lf : Sh → Bool} {es : List Q4} (h : Got c lf es) {k : Sh} {n : Int} (hk : shOk k) (hl : lf k = true) (hn : nz c k = some n) : Got c (fun z => lf z && !decide (z = k)) (es ++ [⟨k.1, k.2.1, k.2.2, n⟩]) := by
  refine ⟨?_, fun x hx => ?_, fun q hq h1 h2 => ?_⟩
  · rw [List.map_append, List.nodup_append]
    refine ⟨h.nodup, by simp, fun a ha b hb e => ?_⟩
    simp at hb
    obtain ⟨x, hx, rfl⟩ := List.mem_map.1 ha
    have := (h.each x hx).2.2
    rw [e, hb] at this
    have e2 : lf k = false := this
    rw [hl] at e2
    cases e2
  · rcases List.mem_append.1 hx with hx | hx
    · obtain ⟨a, b, d⟩ := h.each x hx
      exact ⟨a, b, by rw [d]; rfl⟩
    · rw [List.mem_singleton] at hx
      subst hx
      exact ⟨hk, hn, by rw [keyQ_of]; simp⟩
  · by_cases e : q = k
    · subst e
      exact ⟨⟨q.1, q.2.1, q.2.2, n⟩, by simp, rfl⟩
    · rw [decide_eq_false e] at h2
      obtain ⟨x, hx, e2⟩ := h.all q hq h1 (by simpa using h2)
      exact ⟨x, by simp [hx], e2⟩
theorem nz_eq {c : Sh → Int} {k : Sh} {n : Int} (h : nz c k = some n) : c k = n ∧ n ≠ 0 := by
  unfold nz at h
  split at h
  · cases h
  · rename_i h0
    cases h
    exact ⟨rfl, h0⟩
/-- Counts of shelves that may be. -/
def Fin_ (c : Sh → Int) : Prop := ∀ k, c k ≠ 0 → shOk k
theorem Got.end_ {c : Sh → Int} {lf : Sh → Bool} {es L : List Q4} (h : Got c lf es) (hf : Fin_ c) (hlf : ∀ k, shOk k → lf k = false) (hp : L.Perm es) (hs : L.Pairwise fun a b => ltK (keyQ b) (keyQ a) = false) : NF L c := by
  have hnd : (L.map keyQ).Nodup := (hp.map keyQ).nodup_iff.2 h.nodup
  have hasc : Asc L := by
    have h2 : L.Pairwise fun a b => keyQ a ≠ keyQ b := by
      unfold List.Nodup at hnd
      rwa [List.pairwise_map] at hnd
    refine (hs.and h2).imp fun {a b} hab => ?_
    cases hh : ltK (keyQ a) (keyQ b) with
    | true => rfl
    | false => exact absurd (ltK_tri hh hab.1) hab.2
  refine ⟨hasc, fun x hx => (nz_eq (h.each x (hp.mem_iff.1 hx)).2.1).2, fun k => ?_⟩
  by_cases hk : ∃ x ∈ L, keyQ x = k
  · obtain ⟨x, hx, rfl⟩ := hk
    rw [asc_mem hasc hx, (nz_eq (h.each x (hp.mem_iff.1 hx)).2.1).1]
  · rw [cntS_none fun x hx e => hk ⟨x, hx, e⟩]
    by_cases h0 : c k = 0
    · exact h0.symm
    · obtain ⟨x, hx, e⟩ := h.all k (hf k h0) ((nz_some c k).2 h0) (hlf k (hf k h0))
      exact absurd ⟨x, hp.mem_iff.2 hx, e⟩ hk
section
variable {w : World} {base : Nat} {ops : Array Oper} {rest : List Oper} {o : Oper} {a : Act} {Q : Exit → Act → World → Prop}
theorem info_st : (Try.prog.info? 103).map (fun i => (i.zero.map (·.cells.size), i.size, i.bytes)) = some (some 4, 4, 40) := by kernel_rfl
/-- An entry, behind a row of the call's own. -/
theorem app_st {W : List Q4} {vw : Value} (h : w.ownsRow base 103 4 vw W.length (W.flatMap Q4.cs)) (hgd : o.guard = none) (s x : Operand) (ho : o.op = .call { callee := .builtin .append, args := #[s, x], argTypes := #[22, 22] })
    (hs : a.eval s = vw) (y : Q4) (B : Nat) (hx : a.eval x = .slice (some ⟨B, 0, none⟩) 1 1) (hB : Bk w B 103 y.cs.toArray) (hn : W.length ≤ 30000) (hbase : base ≤ w.heap.size)
    (hK : ∀ v' w', w'.ownsRow base 103 4 v' (W ++ [y]).length ((W ++ [y]).flatMap Q4.cs) → w.grownBy w' vw.ownBlock → wpList Try.prog ops Q rest (a.put o.dst v') w') : wpList Try.prog ops Q (o :: rest) a w := by
  obtain ⟨i0, z, hi0, hz0, hzs, hz1, hz2⟩ := info_cells info_st
  exact wpList_append_own_at w hgd s x _ ho base 103 i0 z 4 40 Try.underlying22 hi0 hz0 hz1 hz2 hzs (by omega) vw W.length (W.flatMap Q4.cs) hs h ⟨B, 0, none⟩ 1 1 y.cs hx rfl (World.news_of_block (fr := (0, 0)) hB) (Q4.one y) (by unfold maxLen; omega) (by omega) hbase fun v' w' h1 h2 _ h4 => hK v' w' (by simpa using h1) h2
end
theorem own_ne {w : World} {base size n e : Nat} {v : Value} {xs : List Value} (h : w.ownsRow base e size v n xs) {b : Nat} (hb : b < base) : some b ≠ v.ownBlock := fun e1 => by
  have := (h.lt b e1.symm).1
  omega
theorem own_base {w : World} {base base' e size n : Nat} {v : Value} {xs : List Value} (h : w.ownsRow base e size v n xs) (hb : base' ≤ base) : w.ownsRow base' e size v n xs := by
  refine ⟨h.1, ?_⟩
  rcases h.2 with h | ⟨g, cap, cur, rfl, hbg, rest⟩
  · exact .inl h
  · exact .inr ⟨g, cap, cur, rfl, by omega, rest⟩
set_option maxRecDepth 100000 in
set_option maxHeartbeats 8000000 in
theorem entries_any (b n : Nat) (c : Sh → Int) (w : World) (h : ShM w b n c) (hf : Fin_ c) (hn : n ≤ 20000) :
    Calls Try.prog 55 #[.map (some b)] w fun e w' => Below w.heap.size w w' ∧ ∃ (v : Value) (L : List Q4), e = .returned v ∧ NF L c ∧ w'.ownsRow (w.heap.size + 1) 103 4 v L.length (L.flatMap Q4.cs) := by
  have hlt := h.lt
  have H0 := Lib.hid h
  have HF := Lib.hid hf
  clear h hf
  go_enter Try.func55, Try.ntmps55
  go_wp2_with (at_range; refine wpList_range_i rfl _ rfl (sh_keys w) Try.underlying110 rfl H0.out rfl ?_; intro w2 cnt hrg _ hcn hg2 hs2; have HR2 := Lib.hid hrg; have HCN := Lib.hid hcn; have HB2 : Hid (Below w.heap.size w w2) := Lib.hid (Below.grown_ (Below.refl _ _) hg2 (Nat.le_refl _) (fun q hq => by cases hq)); clear hrg hg2 hcn)
  go_frame
  go_loopw [3, 4, 5] (fun v _ _ wr => ∃ (cnt : Nat) (lf : Sh → Bool) (es : List Q4), Hid (IRng wr Try.prog 114 3 shV shOk b w.heap.size n (nz c) lf cnt) ∧ Hid (wr.ownsRow (w.heap.size + 1) 103 4 v es.length (es.flatMap Q4.cs)) ∧ Hid (Got c lf es) ∧ es.length + cnt ≤ n ∧ Hid (Below w.heap.size w wr)) (fun _ _ _ wr => wr.rangeLeft b w.heap.size)
  case atStart => exact ⟨cnt, _, [], HR2, Lib.hid (World.ownsRow_nil _ _ _ _), Lib.hid (Got.start c), by simpa using HCN.out, HB2⟩
  case round =>
    obtain ⟨cnt, lf, es, HG, HO, HI, hec, HB⟩ := hrel
    have orr := HG.out.lt.1
    go_wp2_with (first
      | (at_next; go_loud (refine wpList_next_i rfl _ rfl (sh_keys w) Try.underlying3 rfl HG.out ?_ ?_; rotate_left; rintro ⟨xs, xa, xb⟩ cc w3 cnt3 hx hlx hfx hrg3 hlt3 hg3 hs3 hen; have HR3 := Lib.hid hrg3; have HO3 := Lib.hid (HO.out.kept hg3 (.inr (own_ne HO.out (Nat.lt_succ_self _)).symm)); have HB3 : Hid (Below w.heap.size w w3) := Lib.hid (Below.grown_ HB.out hg3 HB.out.size (fun q hq => by cases hq; omega)); have HI3 := Lib.hid (HI.out.step hx hlx hfx); have HL3 := Lib.hid hlt3; have ow3 := HB3.out.size; clear hrg3 hg3 hx hlx hfx hlt3 hs3; dsimp only [shV] at hen ⊢; rotate_left; intro hdn; have HE := Lib.hid hdn; clear hdn; rotate_left))
      | (at_builtin; go_loud (refine app_st (W := es) ((HO3.out.alloc _).alloc _) rfl _ _ rfl rfl ⟨xs, xa, xb, cc⟩ _ rfl (Bk.at_ (by simp)) (by omega) (by simp; omega) ?_; intro v5 w5 ho5 hg5; have HO5 := Lib.hid ho5; have HG5 := Lib.hid hg5; clear ho5 hg5))
      | (go_at_call 83; refine (sort_any HO.out rfl (by omega)).mono ?_; rintro e w4 ⟨rfl, L, hp, hsL, ho4, hg4⟩; have HP := Lib.hid (And.intro hp hsL); have HO4 := Lib.hid ho4; have HG4 := Lib.hid hg4; clear hp hsL ho4 hg4))
    · go_roundw
      case rel =>
        have hr5 : IRng w5 Try.prog 114 3 shV shOk b w.heap.size n (nz c) _ cnt3 := ((HR3.out.kept (World.grownBy_alloc _ _ none) (by simp) (by simp)).kept (World.grownBy_alloc _ _ none) (by simp) (by simp)).kept HG5.out (own_ne HO3.out (by omega)) (own_ne HO3.out (Nat.lt_succ_self _))
        refine ⟨cnt3, _, es ++ [⟨xs, xa, xb, cc⟩], Lib.hid hr5, HO5, HI3, ?_, Lib.hid ?_⟩
        · have := HL3.out
          simp
          omega
        · exact Below.grown_ (((HB3.out.alloc HB3.out.size _).alloc (by simp; omega) _)) HG5.out (by simp; omega) (fun q hq => by have := (HO3.out.lt q hq).1; omega)
      case measure =>
        rw [(((HR3.out.kept (World.grownBy_alloc _ _ none) (by simp) (by simp)).kept (World.grownBy_alloc _ _ none) (by simp) (by simp)).kept HG5.out (own_ne HO3.out (by omega)) (own_ne HO3.out (Nat.lt_succ_self _))).left_eq, HG.out.left_eq]
        exact HL3.out
    · go_ret
      have hlen : L.length = es.length := HP.out.1.length_eq
      refine ⟨Below.grown_ HB.out HG4.out HB.out.size (fun q hq => by have := (HO.out.lt q hq).1; omega), _, L, rfl, HI.out.end_ HF.out HE.out HP.out.1 HP.out.2, ?_⟩
      rw [hlen]
      exact HO4.out

end Go.Proofs.Ytmcefodfppdajaa
