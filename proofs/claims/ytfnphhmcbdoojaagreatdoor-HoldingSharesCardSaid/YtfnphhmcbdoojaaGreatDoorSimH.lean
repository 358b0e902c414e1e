/- Symbolic run of single operations: append whole, copy, lengths, comparisons with nil. No program is named here. -/
import Derived.Test.YtfnphhmcbdoojaaGreatDoorSimG
set_option linter.unusedSimpArgs false
namespace Go.Proofs.YtfnphhmcbdoojaaGreatDoor.Sim
open Go Go.RowKit Go.WideShapes

noncomputable section
variable {P : Program}
theorem HR.transfer {n0 : Nat} {ρ : Rn} {H : Heap} {W : World} (h : HR P n0 ρ H W) {b nm o k : Nat} {xs : List Value} {t : TypeId} (hb : hget H b = some (.cells xs t)) {L : Loc} (hL : ρ b = some L) (hnm : hget H nm = none) (ho : o + k ≤ xs.length) {news news' : List Value} (hn : LR ρ news news') (hfit : o + k + news'.length ≤ L.n) :
    ∃ cs : Array Value, W.heap[L.x]? = some (.cells cs t (0, 0)) ∧ L.s + o + k + news'.length ≤ cs.size ∧ L.sz = szOf P t ∧ ∃ ρ', ρ' nm = some ⟨L.x, L.s + o, L.n - o, L.sz⟩ ∧
      Okay P n0 ρ H W (hins (hset H b .dead) nm (.cells ((xs.drop o).take k ++ news) t)) [b] ρ' (W.setRow L.x (cs.toList.take (L.s + o + k) ++ news' ++ cs.toList.drop (L.s + o + k + news'.length)).toArray) := by
  obtain ⟨L2, h1, h2, h3, g0, cs, g1, g2, g3, g4⟩ := h.obj b _ hb
  rw [hL] at h1
  cases h1
  have hnl := hn.1
  have hbn : b ≠ nm := fun e => by subst e; rw [hnm] at hb; cases hb
  have hfitc : L.s + o + k + news'.length ≤ cs.toList.length := by simp; omega
  have hρ : ρ nm = none := by
    cases hr : ρ nm with
    | none => rfl
    | some M => have := h.dom nm M hr; rw [hnm] at this; cases this
  have hx : Ext ρ (fun q => if q = nm then some ⟨L.x, L.s + o, L.n - o, L.sz⟩ else ρ q) := fun q M hq => by
    by_cases e : q = nm
    · subst e; rw [hρ] at hq; cases hq
    · simp [e, hq]
  have hn1 : hget (hset H b .dead) nm = none := by rw [hget_hset_other hbn.symm]; exact hnm
  have look : ∀ q oq, hget (hins (hset H b .dead) nm (.cells ((xs.drop o).take k ++ news) t)) q = some oq → q ≠ nm → q ≠ b → hget H q = some oq := fun q oq hq e1 e2 => by
    rw [hget_hins_other e1, hget_hset_other e2] at hq
    exact hq
  have lookb : ∀ oq, hget (hins (hset H b .dead) nm (.cells ((xs.drop o).take k ++ news) t)) b = some oq → oq = .dead := fun oq hq => by
    rw [hget_hins_other hbn, hget_hset_same hb] at hq
    cases hq
    rfl
  have lookn : ∀ oq, hget (hins (hset H b .dead) nm (.cells ((xs.drop o).take k ++ news) t)) nm = some oq → oq = .cells ((xs.drop o).take k ++ news) t := fun oq hq => by
    rw [hget_hins_same hn1] at hq
    cases hq
    rfl
  refine ⟨cs, g1, by simpa using hfitc, g0, fun q => if q = nm then some ⟨L.x, L.s + o, L.n - o, L.sz⟩ else ρ q, by simp, hx, ⟨?_, ?_, ?_⟩, ⟨rfl, rfl, rfl, by simp, fun q hq => setRow_other W _ q _ (by omega)⟩, ?_, fun q oq hq hn => by
    simp at hn
    have hqn : q ≠ nm := fun e => by subst e; rw [hnm] at hq; cases hq
    rw [hget_hins_other hqn, hget_hset_other hn]
    exact hq⟩
  · intro q M hq
    by_cases e : q = nm
    · subst e; rw [hget_hins_same hn1]; rfl
    · rw [hget_hins_other e]
      simp [e] at hq
      by_cases e2 : q = b
      · subst e2; rw [hget_hset_same hb]; rfl
      · rw [hget_hset_other e2]; exact h.dom q M hq
  · intro q oq hq
    by_cases e : q = nm
    · subst e
      have := lookn oq hq
      subst this
      refine ⟨⟨L.x, L.s + o, L.n - o, L.sz⟩, by simp, h2, by simpa using h3, g0, _, setRow_heap W L.x cs _ t (0, 0) g1, ?_, ?_, ?_⟩
      · have := ovl_length (xs := cs.toList) (vs := news') (o := L.s + o + k) (by omega)
        unfold ovl at this
        rw [List.size_toArray, this]
        simp
        omega
      · simp
        omega
      · intro i v hv
        have e2 := ovl_get (xs := cs.toList) (vs := news') (o := L.s + o + k) (by omega) (L.s + o + i)
        unfold ovl at e2
        rw [List.getElem?_toArray, e2]
        have hol : ((xs.drop o).take k).length = k := by simp; omega
        by_cases hik : i < k
        · rw [List.getElem?_append_left (by omega), List.getElem?_take, if_pos hik, List.getElem?_drop] at hv
          rw [if_neg (by omega)]
          obtain ⟨v', a, c⟩ := g4 (o + i) v hv
          exact ⟨v', by rw [Array.getElem?_toList, show L.s + o + i = L.s + (o + i) from by omega]; exact a, c.mono hx⟩
        · rw [List.getElem?_append_right (by omega), hol] at hv
          obtain ⟨v', a, c⟩ := hn.get hv
          have : i - k < news'.length := (List.getElem?_eq_some_iff.1 a).1
          rw [if_pos (by omega)]
          exact ⟨v', by rw [show L.s + o + i - (L.s + o + k) = i - k from by omega]; exact a, c.mono hx⟩
    · by_cases e2 : q = b
      · subst e2
        have := lookb oq hq
        subst this
        exact ⟨L, by simp [e, hL], h2, by simpa using h3, trivial⟩
      · have hq' := look q oq hq e e2
        obtain ⟨M, k1, k2, k3, k4⟩ := h.obj q oq hq'
        refine ⟨M, by simp [e, k1], k2, by simpa using k3, ?_⟩
        cases hd : isDead oq with
        | true => cases oq <;> first | trivial | cases hd
        | false => exact k4.mono hx (setRow_other W _ _ _ fun e' => e2 (h.inj q b oq _ M L hq' hb hd rfl k1 hL e'))
  · intro q q' o1 o2 M M' hq hq' hd hd' hM hM' he
    have old : ∀ j oj Mj, hget (hins (hset H b .dead) nm (.cells ((xs.drop o).take k ++ news) t)) j = some oj → isDead oj = false → j ≠ nm → (if j = nm then some (⟨L.x, L.s + o, L.n - o, L.sz⟩ : Loc) else ρ j) = some Mj → j ≠ b ∧ hget H j = some oj ∧ ρ j = some Mj := fun j oj Mj hj hdj hjn hMj => by
      have e2 : j ≠ b := fun e2 => by
        subst e2
        rw [lookb oj hj] at hdj
        cases hdj
      exact ⟨e2, look j oj hj hjn e2, by simpa [hjn] using hMj⟩
    by_cases e : q = nm
    · by_cases e' : q' = nm
      · rw [e, e']
      · obtain ⟨p1, p2, p3⟩ := old q' o2 M' hq' hd' e' hM'
        simp [e] at hM
        subst hM
        exact absurd (h.inj q' b o2 _ M' L p2 hb hd' rfl p3 hL he.symm) p1
    · obtain ⟨p1, p2, p3⟩ := old q o1 M hq hd e hM
      by_cases e' : q' = nm
      · simp [e'] at hM'
        subst hM'
        exact absurd (h.inj q b o1 _ M L p2 hb hd rfl p3 hL he) p1
      · obtain ⟨r1, r2, r3⟩ := old q' o2 M' hq' hd' e' hM'
        exact h.inj q q' o1 o2 M M' p2 r2 hd hd' p3 r3 he
  · intro q oq M hq hd hnw hM
    simp at hnw
    have hqn : q ≠ nm := fun e => by subst e; rw [hnm] at hq; cases hq
    rw [hget_hins_other hqn, hget_hset_other hnw]
    exact ⟨hq, setRow_other W _ _ _ fun e' => hnw (h.inj q b oq _ M L hq hb hd rfl hM hL e')⟩

/-- append. -/
def sappend (P : Program) (nm : Nat) (t tx : TypeId) (s x : Value) (H : Heap) : Option (Value × Heap × List Nat) :=
  match und P t with
  | some (.slice e) => match inf P e with
    | some i => match srcOf P tx x i.size H with
      | some (n, news) => match s with
        | .slice none 0 0 => match n with
          | 0 => some (.slice none 0 0, H, [])
          | m + 1 => match sgrow P nm e [] news (0 + (m + 1)) H with
            | some (u, H') => some (u, H', [])
            | none => none
        | .slice (some ⟨b, o, none⟩) len c => match hget H b with
          | some (.cells xs ty) => match Nat.ble (o + len * i.size) xs.length, Nat.beq c UNK with
            | true, false => match Nat.ble (len + n) c with
              | true => match Nat.ble (o + len * i.size + news.length) xs.length with
                | true => some (.slice (some ⟨b, o, none⟩) (len + n) c, hset H b (.cells (ovl xs (o + len * i.size) news) ty), [b])
                | false => none
              | false => match sgrow P nm e ((xs.drop o).take (len * i.size)) news (len + n) H with
                | some (u, H') => some (u, H', [])
                | none => none
            | true, true => match (Nat.beq ty e).and (Nat.beq o 0), sgrow P nm e ((xs.drop o).take (len * i.size)) news (len + n) H with
              | true, some (u, _) => some (u, hins (hset H b .dead) nm (.cells ((xs.drop o).take (len * i.size) ++ news) e), [b])
              | _, _ => none
            | _, _ => none
          | _ => none
        | _ => none
      | none => none
    | none => none
  | _ => none

theorem Okay.kill {n0 : Nat} {ρ ρ' : Rn} {H H' H2 : Heap} {W W' : World} {wr : List Nat} {b : Nat} (k : Okay P n0 ρ H W H' wr ρ' W') (hb : (hget H' b).isSome = true) (h2 : ∀ q, hget H2 q = if q = b then some .dead else hget H' q) : Okay P n0 ρ H W H2 (b :: wr) ρ' W' :=
  ⟨k.ext, ⟨fun q L hq => by
      rw [h2]
      split
      · rfl
      · exact k.hr.dom q L hq, fun q o hq => by
      rw [h2] at hq
      split at hq
      · rename_i e
        subst e
        cases hq
        obtain ⟨o', ho'⟩ := Option.isSome_iff_exists.1 hb
        obtain ⟨L, k1, k2, k3, -⟩ := k.hr.obj q o' ho'
        exact ⟨L, k1, k2, k3, trivial⟩
      · exact k.hr.obj q o hq, fun q q' o o' L L' hq hq' hd hd' hL hL' he => by
      rw [h2] at hq hq'
      split at hq
      · cases hq; cases hd
      · split at hq'
        · cases hq'; cases hd'
        · exact k.hr.inj q q' o o' L L' hq hq' hd hd' hL hL' he⟩, k.below, fun q o L hq hd hn hL => by
      simp only [List.mem_cons, not_or] at hn
      obtain ⟨x, y⟩ := k.fr q o L hq hd hn.2 hL
      exact ⟨by rw [h2, if_neg hn.1]; exact x, y⟩, fun q o hq hn => by
      simp only [List.mem_cons, not_or] at hn
      rw [h2, if_neg hn.1]
      exact k.fr1 q o hq hn.2⟩
theorem sgrow_new {nm : Nat} {e : TypeId} {olds news : List Value} {need : Nat} {H H' : Heap} {u : Value} (hs : sgrow P nm e olds news need H = some (u, H')) : hget H nm = none ∧ H' = hins H nm (.cells (olds ++ news) e) ∧ u = .slice (some ⟨nm, 0, none⟩) need UNK ∧ need + 1 ≤ UNK := by
  unfold sgrow at hs
  simp only [inf_eq, und_eq, fun1_eq] at hs
  split at hs
  · split at hs
    · split at hs
      · rename_i e1 e2 e3 hn
        cases hs
        unfold snew at hn
        split at hn
        · rename_i hnm
          cases hn
          exact ⟨hnm, rfl, rfl, Nat.le_of_ble_eq_true e3⟩
        · cases hn
      · cases hs
    · cases hs
  · cases hs
theorem sappend_ok {n0 : Nat} {ρ : Rn} {H H' : Heap} {W : World} {nm : Nat} {t tx ty : TypeId} {s s' x x' u : Value} {wr : List Nat} (hs : sappend P nm t tx s x H = some (u, H', wr)) (hv : VR ρ s s') (hx : VR ρ x x') (h : HR P n0 ρ H W) (h0 : n0 ≤ W.heap.size) :
    ∃ ρ' W' u', (Builtin.append_ #[t, tx] ty #[s', x']).run P W = .ok u' W' ∧ VR ρ' u u' ∧ Okay P n0 ρ H W H' wr ρ' W' := by
  unfold sappend at hs
  simp only [inf_eq, und_eq, fun1_eq] at hs
  split at hs
  · rename_i e ht
    split at hs
    · rename_i i hi
      split at hs
      · rename_i n news hsrc
        obtain ⟨news', hn, src⟩ := srcOf_ok hsrc hx h
        split at hs
        · have := hv.lit_eq rfl
          subst this
          split at hs
          · cases hs
            exact ⟨ρ, W, _, app_none ht hi src, .lit rfl, Okay.refl h⟩
          · rename_i m
            split at hs
            · rename_i u2 H2 hg
              cases hs
              exact sgrow_ok (sLen := 0) (sCap := 0) (base := none) hg ht hi (LR.nil ρ) (by simp) (run_firstCells_none W.drew i.size 0 0 0) hn src (by omega) h h0
            · cases hs
        · rename_i b o len c
          obtain ⟨L, hL, c', rfl, hc⟩ := hv.slice_inv
          split at hs
          · rename_i xs tb hb
            split at hs
            · rename_i hfit hcu
              have hfit := Nat.le_of_ble_eq_true hfit
              have hcu : c ≠ UNK := fun e => by rw [e] at hcu; simp [Nat.beq_refl] at hcu
              obtain ⟨-, rfl⟩ := hc.resolve_right (fun hh => hcu hh.1)
              split at hs
              · rename_i hroom
                have hroom := Nat.le_of_ble_eq_true hroom
                split at hs
                · rename_i hin
                  have hin := Nat.le_of_ble_eq_true hin
                  cases hs
                  obtain ⟨cs, q1, q2, q3⟩ := h.store hb hL hin hn
                  have hrun := app_room (P := P) (t := t) (tx := tx) (ty := ty) ht hi q1 (off := L.s + o) (sLen := len) (sCap := c') src hroom (by omega)
                  rw [show L.s + o + len * i.size = L.s + (o + len * i.size) from by omega] at hrun
                  exact ⟨ρ, _, _, hrun, .slice hL hcu, q3⟩
                · cases hs
              · rename_i hroom
                have hroom : c' < len + n := by
                  rcases Nat.lt_or_ge c' (len + n) with hh | hh
                  · exact hh
                  · rw [Nat.ble_eq_true_of_le hh] at hroom; cases hroom
                split at hs
                · rename_i u2 H2 hg
                  cases hs
                  obtain ⟨ys, k1, k2, k3⟩ := h.cells hb hL o (len * i.size) hfit
                  exact sgrow_ok hg ht hi k1 k2 (run_firstCells_some W.drew i.size len _ len c' ys k2 (by simpa using k3)) hn src hroom h h0
                · cases hs
            · rename_i hfit hcu
              have hfit := Nat.le_of_ble_eq_true hfit
              have hcu := (beq_of _ _).1 hcu
              subst hcu
              obtain ⟨-, q1, q2, q3⟩ := hc.resolve_left (fun hh => hh.1 rfl)
              split at hs
              · rename_i u2 H2 hte hg
                have hte2 : Nat.beq tb e = true ∧ Nat.beq o 0 = true := by
                  cases hh1 : Nat.beq tb e <;> cases hh2 : Nat.beq o 0 <;> simp [hh1, hh2] at hte ⊢
                have ho0 := (beq_of _ _).1 hte2.2
                have hte := (beq_of _ _).1 hte2.1
                subst hte
                cases hs
                obtain ⟨hnm, rfl, rfl, hlt⟩ := sgrow_new hg
                have hbn : b ≠ nm := fun e => by subst e; rw [hnm] at hb; cases hb
                have hunk : UNK = 9223372036854775808 := rfl
                rcases Nat.lt_or_ge c' (len + n) with hroom | hroom
                · obtain ⟨ys, k1, k2, k3⟩ := h.cells hb hL o (len * i.size) hfit
                  obtain ⟨ρ', W', u', r1, r2, r3⟩ := sgrow_ok (base := some ⟨L.x, L.s + o, none⟩) (tx := tx) (ty := ty) hg ht hi k1 k2 (run_firstCells_some W.drew i.size len _ len c' ys k2 (by simpa using k3)) hn src hroom h h0
                  refine ⟨ρ', W', u', r1, r2, r3.kill (b := b) (by rw [hget_hins_other hbn, hb]; rfl) fun q => ?_⟩
                  by_cases e1 : q = nm
                  · subst e1
                    rw [if_neg hbn.symm, hget_hins_same hnm, hget_hins_same (by rw [hget_hset_other hbn.symm]; exact hnm)]
                  · rw [hget_hins_other e1, hget_hins_other e1]
                    by_cases e2 : q = b
                    · subst e2; rw [if_pos rfl, hget_hset_same hb]
                    · rw [if_neg e2, hget_hset_other e2]
                · have hsz : szOf P tb = i.size := szOf_eq hi
                  have hnl := src.newsLen
                  obtain ⟨L2, m1, m2, m3, m0, -⟩ := h.obj b _ hb
                  rw [hL] at m1
                  cases m1
                  rw [hsz] at m0
                  have q3 := q3 ho0
                  rw [m0] at q3
                  have hmul : len * i.size + n * i.size ≤ c' * i.size := by rw [← Nat.add_mul]; exact Nat.mul_le_mul_right _ hroom
                  obtain ⟨cs, p1, p2, p0, ρ', p3, p4⟩ := h.transfer hb hL hnm hfit hn (by omega)
                  have hrun := app_room (P := P) (t := t) (tx := tx) (ty := ty) ht hi p1 (off := L.s + o) (sLen := len) (sCap := c') src hroom p2
                  refine ⟨ρ', _, _, hrun, ?_, p4⟩
                  have := VR.sliceU (o := 0) (n := len + n) (c' := c') p3 hroom q2 (by intro _; simp only [m0]; omega)
                  simpa using this
              · cases hs
            · cases hs
          · cases hs
        · cases hs
      · cases hs
    · cases hs
  · cases hs

end
end Go.Proofs.YtfnphhmcbdoojaaGreatDoor.Sim
