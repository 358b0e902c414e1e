/- A region that draws its order, walked along one line: two allocations that wait for nothing may come up anywhere between the calls. -/
import Derived.Test.YtfnibkodccfocaaGreatLine
import Derived.Test.YtfnibkodccfocaaGreatRefA
namespace Go.Proofs.YtfnibkodccfocaaGreat
open Go Go.RowKit Go.Proofs.YtfnibkodccfocaaGreat.Sim

/-- A float: where it has come up, its block lies there as it was made. -/
def FloOk (D0 : Nat) (t : TypeId) (z : Array Value) (d : Bool) (v : Value) (w : World) : Prop := d = true → ∃ g, v = .pointer (some ⟨g, 0, none⟩) ∧ D0 ≤ g ∧ Bk w g t z
def LF (L : Array Bool) (iA iB : Nat) : Bool → Bool → Array Bool
  | false, false => L
  | true, false => L.setIfInBounds iA true
  | false, true => L.setIfInBounds iB true
  | true, true => (L.setIfInBounds iA true).setIfInBounds iB true
def nF (n : Nat) : Bool → Bool → Nat
  | false, false => n + 2
  | true, true => n
  | _, _ => n + 1
def FloAt (S : World → Prop) (D0 : Nat) (t : TypeId) (z : Array Value) (w0 : World) (dA dB : Bool) (vA vB : Value) (w : World) : Prop :=
  Below w0.heap.size w0 w ∧ FloOk D0 t z dA vA w ∧ FloOk D0 t z dB vB w ∧ (dA = true → dB = true → vA ≠ vB) ∧ S w
/-- From here on: whatever has come up of the two. -/
def FloT (P : Program) (ops : Array Oper) (Q : Exit → Act → World → Prop) (S : World → Prop) (D : List Nat) (iA iB D0 : Nat) (t : TypeId) (z : Array Value) (n : Nat) (L : Array Bool) (w0 : World) (fr : Value → Value → Act) : Prop :=
  ∀ dA dB vA vB w, FloAt S D0 t z w0 dA dB vA vB w → Goes P ops Q (SD S D) (nF n dA dB) (LF L iA iB dA dB) (fr vA vB) w
section
variable {P : Program} {ops : Array Oper} {Q : Exit → Act → World → Prop} {S : World → Prop} {D : List Nat} {iA iB D0 : Nat} {t : TypeId} {z : Array Value}
theorem FloOk.below {d : Bool} {v : Value} {w w' : World} (h : FloOk D0 t z d v w) (hb : Below w.heap.size w w') : FloOk D0 t z d v w' := fun hd => by
  obtain ⟨g, e, hg, hk⟩ := h hd
  exact ⟨g, e, hg, hk.below hb hk.lt⟩
theorem FloOk.no {v : Value} {w : World} : FloOk D0 t z false v w := fun h => by cases h
theorem FloOk.alloc {w : World} (h : D0 ≤ w.heap.size) : FloOk D0 t z true (.pointer (some ⟨w.heap.size, 0, none⟩)) (w.alloc (.cells z t)) := fun _ => ⟨_, rfl, h, Bk.alloc_ _ _ _⟩
theorem FloOk.ne {v : Value} {w : World} (h : FloOk D0 t z true v w) : v ≠ .pointer (some ⟨w.heap.size, 0, none⟩) := by
  obtain ⟨g, rfl, -, hk⟩ := h rfl
  have := hk.lt
  intro e
  simp at e
/-- An allocation comes up. -/
theorem wpOp_alloc {i : Nat} {oi : Oper} {a : Act} {w : World} {K : Act → World → Prop} (hi : ops[i]? = some oi) (hg : oi.guard = none)
    (hal : ∀ (a : Act) w, (execOp a.eval oi).run P w = .ok (.value (.pointer (some ⟨w.heap.size, 0, none⟩))) (w.alloc (.cells z t)))
    (h : K (a.put oi.dst (.pointer (some ⟨w.heap.size, 0, none⟩))) (w.alloc (.cells z t))) : wpOp P ops Q i K a w := by
  unfold wpOp
  rw [hi]
  dsimp only
  rw [if_pos (by simp [Region.wanted, hg])]
  left
  unfold Oper.wp
  rw [hal]
  exact h
theorem below_alloc1 (w : World) (o : Obj) : Below w.heap.size w (w.alloc o) := (Below.refl _ w).alloc (Nat.le_refl _) o
theorem flo_all {c : List Nat} {oA oB : Oper} {n : Nat} {L : Array Bool} {w0 : World} {fr : Value → Value → Act} (hA : ops[iA]? = some oA) (gA : oA.guard = none) (hB : ops[iB]? = some oB) (gB : oB.guard = none)
    (alA : ∀ (a : Act) w, (execOp a.eval oA).run P w = .ok (.value (.pointer (some ⟨w.heap.size, 0, none⟩))) (w.alloc (.cells z t)))
    (alB : ∀ (a : Act) w, (execOp a.eval oB).run P w = .ok (.value (.pointer (some ⟨w.heap.size, 0, none⟩))) (w.alloc (.cells z t)))
    (pA : ∀ vA vB v, (fr vA vB).put oA.dst v = fr v vB) (pB : ∀ vA vB v, (fr vA vB).put oB.dst v = fr vA v)
    (hS : ∀ w o, S w → S (w.alloc o)) (hD : D0 ≤ w0.heap.size) (hAB : iA ≠ iB)
    (r00 : Region.ready .any ops (LF L iA iB false false) = c ++ [iA, iB]) (r10 : Region.ready .any ops (LF L iA iB true false) = c ++ [iB]) (r01 : Region.ready .any ops (LF L iA iB false true) = c ++ [iA])
    (h11 : ∀ vA vB w, FloAt S D0 t z w0 true true vA vB w → Goes P ops Q (SD S D) n (LF L iA iB true true) (fr vA vB) w)
    (hc : ∀ j, j ∈ c → ∀ dA dB vA vB w, FloAt S D0 t z w0 dA dB vA vB w → ∀ m, nF n dA dB = m + 1 → wpOp P ops Q j (fun a' w' => SD S D ((LF L iA iB dA dB).setIfInBounds j true) w' ∧ Goes P ops Q (SD S D) m ((LF L iA iB dA dB).setIfInBounds j true) a' w') (fr vA vB) w) :
    FloT P ops Q S D iA iB D0 t z n L w0 fr := by
  have h10 : ∀ vA vB w, FloAt S D0 t z w0 true false vA vB w → Goes P ops Q (SD S D) (n + 1) (LF L iA iB true false) (fr vA vB) w := by
    intro vA vB w h
    refine Goes.all r10 (by simp) fun j hj => ?_
    rcases List.mem_append.1 hj with hj | hj
    · exact hc j hj true false vA vB w h n rfl
    · obtain rfl := List.mem_singleton.1 hj
      obtain ⟨hb, h1, h2, h3, hs⟩ := h
      refine wpOp_alloc hB gB alB ⟨.inr (hS _ _ hs), ?_⟩
      rw [pB]
      exact h11 _ _ _ ⟨hb.alloc hb.size _, h1.below (below_alloc1 _ _), FloOk.alloc (Nat.le_trans hD hb.size), fun _ _ => h1.ne, hS _ _ hs⟩
  have h01 : ∀ vA vB w, FloAt S D0 t z w0 false true vA vB w → Goes P ops Q (SD S D) (n + 1) (LF L iA iB false true) (fr vA vB) w := by
    intro vA vB w h
    refine Goes.all r01 (by simp) fun j hj => ?_
    rcases List.mem_append.1 hj with hj | hj
    · exact hc j hj false true vA vB w h n rfl
    · obtain rfl := List.mem_singleton.1 hj
      obtain ⟨hb, h1, h2, h3, hs⟩ := h
      refine wpOp_alloc hA gA alA ⟨.inr (hS _ _ hs), ?_⟩
      rw [pA]
      have e : (LF L j iB false true).setIfInBounds j true = LF L j iB true true := Array.setIfInBounds_comm _ _ (Ne.symm hAB)
      rw [e]
      exact h11 _ _ _ ⟨hb.alloc hb.size _, FloOk.alloc (Nat.le_trans hD hb.size), h2.below (below_alloc1 _ _), fun _ _ => h2.ne.symm, hS _ _ hs⟩
  have h00 : ∀ vA vB w, FloAt S D0 t z w0 false false vA vB w → Goes P ops Q (SD S D) (n + 2) (LF L iA iB false false) (fr vA vB) w := by
    intro vA vB w h
    refine Goes.all r00 (by simp) fun j hj => ?_
    rcases List.mem_append.1 hj with hj | hj
    · exact hc j hj false false vA vB w h (n + 1) rfl
    · obtain ⟨hb, h1, h2, h3, hs⟩ := h
      rcases List.mem_cons.1 hj with rfl | hj
      · refine wpOp_alloc hA gA alA ⟨.inr (hS _ _ hs), ?_⟩
        rw [pA]
        exact h10 _ _ _ ⟨hb.alloc hb.size _, FloOk.alloc (Nat.le_trans hD hb.size), FloOk.no, (fun _ h => by cases h), hS _ _ hs⟩
      · obtain rfl := List.mem_singleton.1 hj
        refine wpOp_alloc hB gB alB ⟨.inr (hS _ _ hs), ?_⟩
        rw [pB]
        exact h01 _ _ _ ⟨hb.alloc hb.size _, FloOk.no, FloOk.alloc (Nat.le_trans hD hb.size), (fun h => by cases h), hS _ _ hs⟩
  intro dA dB vA vB w h
  cases dA <;> cases dB
  · exact h00 vA vB w h
  · exact h01 vA vB w h
  · exact h10 vA vB w h
  · exact h11 vA vB w h
/-- A call between the floats. -/
theorem flo_call {i : Nat} {oi oA oB : Oper} {n : Nat} {L : Array Bool} {w0 : World} {fr : Value → Value → Act} (hi : ops[i]? = some oi) (hA : ops[iA]? = some oA) (gA : oA.guard = none) (hB : ops[iB]? = some oB) (gB : oB.guard = none)
    (alA : ∀ (a : Act) w, (execOp a.eval oA).run P w = .ok (.value (.pointer (some ⟨w.heap.size, 0, none⟩))) (w.alloc (.cells z t)))
    (alB : ∀ (a : Act) w, (execOp a.eval oB).run P w = .ok (.value (.pointer (some ⟨w.heap.size, 0, none⟩))) (w.alloc (.cells z t)))
    (pA : ∀ vA vB v, (fr vA vB).put oA.dst v = fr v vB) (pB : ∀ vA vB v, (fr vA vB).put oB.dst v = fr vA v)
    (hS : ∀ w o, S w → S (w.alloc o)) (hD : D0 ≤ w0.heap.size) (hAB : iA ≠ iB) (hiA : i ≠ iA) (hiB : i ≠ iB)
    (r00 : Region.ready .any ops L = [i, iA, iB]) (r10 : Region.ready .any ops (L.setIfInBounds iA true) = [i, iB]) (r01 : Region.ready .any ops (L.setIfInBounds iB true) = [i, iA]) (r11 : Region.ready .any ops ((L.setIfInBounds iA true).setIfInBounds iB true) = [i])
    (hcall : ∀ vA vB w, Below w0.heap.size w0 w → S w → wpList P ops (Behind Q fun a' w' => S w' ∧ Below w.heap.size w w' ∧ (a'.put oA.dst vA).put oB.dst vB = a' ∧ FloT P ops Q S D iA iB D0 t z n (L.setIfInBounds i true) w' (fun x y => (a'.put oA.dst x).put oB.dst y)) [oi] (fr vA vB) w) :
    FloT P ops Q S D iA iB D0 t z (n + 1) L w0 fr := by
  have key : ∀ j, j ∈ [i] → ∀ dA dB vA vB w, FloAt S D0 t z w0 dA dB vA vB w → ∀ m, nF (n + 1) dA dB = m + 1 → wpOp P ops Q j (fun a' w' => SD S D ((LF L iA iB dA dB).setIfInBounds j true) w' ∧ Goes P ops Q (SD S D) m ((LF L iA iB dA dB).setIfInBounds j true) a' w') (fr vA vB) w := by
    intro j hj dA dB vA vB w h m hm
    obtain rfl := List.mem_singleton.1 hj
    obtain ⟨hb, h1, h2, h3, hs⟩ := h
    refine wpOp_mono (fun a' w' hh => ?_) (wpOp_of_list hi (hcall vA vB w hb hs))
    obtain ⟨hs', hb', ha, hT⟩ := hh
    refine ⟨.inr hs', ?_⟩
    have : Goes P ops Q (SD S D) _ _ ((a'.put oA.dst vA).put oB.dst vB) w' := hT dA dB vA vB w' ⟨Below.refl _ _, h1.below hb', h2.below hb', h3, hs'⟩
    have e : LF (L.setIfInBounds j true) iA iB dA dB = (LF L iA iB dA dB).setIfInBounds j true := by
      cases dA <;> cases dB
      · rfl
      · exact Array.setIfInBounds_comm _ _ hiB
      · exact Array.setIfInBounds_comm _ _ hiA
      · show ((L.setIfInBounds j true).setIfInBounds iA true).setIfInBounds iB true = ((L.setIfInBounds iA true).setIfInBounds iB true).setIfInBounds j true
        rw [Array.setIfInBounds_comm (i := j) (j := iA) _ _ hiA, Array.setIfInBounds_comm (i := j) (j := iB) _ _ hiB]
    have en : nF n dA dB = m := by cases dA <;> cases dB <;> simp only [nF] at hm ⊢ <;> omega
    rw [e, en, ha] at this
    exact this
  refine flo_all (c := [i]) hA gA hB gB alA alB pA pB hS hD hAB r00 r10 r01 ?_ key
  intro vA vB w h
  refine Goes.all r11 (by simp) fun j hj => ?_
  exact key j hj true true vA vB w h n rfl
/-- The calls are done: both floats come up. -/
theorem flo_end {oA oB : Oper} {n : Nat} {L : Array Bool} {w0 : World} {fr : Value → Value → Act} (hA : ops[iA]? = some oA) (gA : oA.guard = none) (hB : ops[iB]? = some oB) (gB : oB.guard = none)
    (alA : ∀ (a : Act) w, (execOp a.eval oA).run P w = .ok (.value (.pointer (some ⟨w.heap.size, 0, none⟩))) (w.alloc (.cells z t)))
    (alB : ∀ (a : Act) w, (execOp a.eval oB).run P w = .ok (.value (.pointer (some ⟨w.heap.size, 0, none⟩))) (w.alloc (.cells z t)))
    (pA : ∀ vA vB v, (fr vA vB).put oA.dst v = fr v vB) (pB : ∀ vA vB v, (fr vA vB).put oB.dst v = fr vA v)
    (hS : ∀ w o, S w → S (w.alloc o)) (hD : D0 ≤ w0.heap.size) (hAB : iA ≠ iB)
    (r00 : Region.ready .any ops L = [iA, iB]) (r10 : Region.ready .any ops (L.setIfInBounds iA true) = [iB]) (r01 : Region.ready .any ops (L.setIfInBounds iB true) = [iA])
    (h11 : ∀ gA gB w, Below w0.heap.size w0 w → D0 ≤ gA → D0 ≤ gB → gA ≠ gB → Bk w gA t z → Bk w gB t z → S w → Goes P ops Q (SD S D) n ((L.setIfInBounds iA true).setIfInBounds iB true) (fr (.pointer (some ⟨gA, 0, none⟩)) (.pointer (some ⟨gB, 0, none⟩))) w) :
    FloT P ops Q S D iA iB D0 t z n L w0 fr := by
  refine flo_all (c := []) hA gA hB gB alA alB pA pB hS hD hAB r00 r10 r01 ?_ (fun j hj => by cases hj)
  intro vA vB w h
  obtain ⟨hb, h1, h2, h3, hs⟩ := h
  obtain ⟨a, rfl, ha, ka⟩ := h1 rfl
  obtain ⟨b, rfl, hb', kb⟩ := h2 rfl
  refine h11 a b w hb ha hb' (fun e => h3 rfl rfl (by rw [e])) ka kb hs
/-- The beginning: nothing has come up. -/
theorem flo_begin {n : Nat} {L : Array Bool} {w0 : World} {a : Act} {vA vB : Value} (fr : Value → Value → Act) (ha : a = fr vA vB) (hs : S w0) (h : FloT P ops Q S D iA iB D0 t z n L w0 fr) : Goes P ops Q (SD S D) (n + 2) L a w0 := by
  rw [ha]
  exact h false false vA vB w0 ⟨Below.refl _ _, FloOk.no, FloOk.no, (fun h => by cases h), hs⟩
/-- An operation that touches no memory is taken, whatever of the floats has come up. -/
theorem flo_take {i : Nat} {oi : Oper} {n : Nat} {L : Array Bool} {w0 : World} {fr : Value → Value → Act} {v : Value} (E : List Nat) (hi : ops[i]? = some oi) (hg : oi.guard = none) (hiA : i ≠ iA) (hiB : i ≠ iB)
    (hB : ∀ dA dB, takeE ops D E i (LF L iA iB dA dB) = true) (hQ : ∀ c a w, Q (.panic c) (a.put oi.dst v) w → Q (.panic c) a w) (hy : ∀ vA vB w, S w → (execOp (fr vA vB).eval oi).run P w = .ok (.value v) w)
    (h : FloT P ops Q S D iA iB D0 t z n (L.setIfInBounds i true) w0 (fun x y => (fr x y).put oi.dst v)) : FloT P ops Q S D iA iB D0 t z (n + 1) L w0 fr := by
  intro dA dB vA vB w hw
  have e : LF (L.setIfInBounds i true) iA iB dA dB = (LF L iA iB dA dB).setIfInBounds i true := by
    cases dA <;> cases dB
    · rfl
    · exact Array.setIfInBounds_comm _ _ hiB
    · exact Array.setIfInBounds_comm _ _ hiA
    · show ((L.setIfInBounds i true).setIfInBounds iA true).setIfInBounds iB true = ((L.setIfInBounds iA true).setIfInBounds iB true).setIfInBounds i true
      rw [Array.setIfInBounds_comm (i := i) (j := iA) _ _ hiA, Array.setIfInBounds_comm (i := i) (j := iB) _ _ hiB]
  have en : nF (n + 1) dA dB = nF n dA dB + 1 := by cases dA <;> cases dB <;> rfl
  have hh : Goes P ops Q (SD S D) (nF n dA dB) (LF (L.setIfInBounds i true) iA iB dA dB) ((fr vA vB).put oi.dst v) w := h dA dB vA vB w hw
  rw [en]
  rw [e] at hh
  exact goes_takeE E hi (hB dA dB) hg hQ (hy vA vB) hw.2.2.2.2 hh
/-- The same, where the two places hold what they held. -/
theorem flo_begin2 {n : Nat} {L : Array Bool} {w0 : World} {a : Act} {vA vB : Value} (sA sB : Option Tmp) (ha : (a.put sA vA).put sB vB = a) (hs : S w0) (h : FloT P ops Q S D iA iB D0 t z n L w0 (fun x y => (a.put sA x).put sB y)) : Goes P ops Q (SD S D) (n + 2) L a w0 :=
  flo_begin _ ha.symm hs h
theorem alloc_keep {w : World} {a : Addr} {v : Value} (o : Obj) (h : w.cell? a = some v) : (w.alloc o).cell? a = some v := (World.cell?_alloc_some w a o (by rw [h]; rfl)).trans h
end
/-- An operation that asks nothing of the memory is taken first, whatever may come up ahead of it. -/
theorem goes_pure {P : Program} {ops : Array Oper} {Q : Exit → Act → World → Prop} {S : World → Prop} {D : List Nat} {i n : Nat} {oi : Oper} {v : Value} {L : Array Bool} {a : Act} {w : World} (hi : ops[i]? = some oi) (hB : (takeE ops [] [] i L && !D.contains i) = true) (hg : oi.guard = none)
    (hQ : ∀ c a w, Q (.panic c) (a.put oi.dst v) w → Q (.panic c) a w) (hy : ∀ w, (execOp a.eval oi).run P w = .ok (.value v) w) (hS : S w)
    (h : Goes P ops Q (SD S D) n (L.setIfInBounds i true) (a.put oi.dst v) w) : Goes P ops Q (SD S D) (n + 1) L a w := by
  simp only [takeE, Bool.and_eq_true, Bool.not_eq_true'] at hB
  obtain ⟨⟨h1, h2, h3, h4, h5⟩, h6⟩ := hB
  have hne : ∀ k ∈ D, k ≠ i := fun k hk e => by
    subst e
    have : D.contains k = true := by simpa using hk
    rw [this] at h6
    cases h6
  have hget : ∀ (L : Array Bool) (k : Nat), k ∈ D → (L.setIfInBounds i true).getD k false = L.getD k false := fun L k hk => getD_set_ne false (hne k hk).symm
  refine Goes.take (D := fun _ => false) hi h1 hQ ?_ ?_ n L a w (Region.free_spec hi h2) (by simpa using h3) (fun k hk => by cases hk) ?_ (.inr hS) h
  · rintro L w (⟨k, hk, hl⟩ | hs)
    · exact .inl ⟨k, hk, by rw [hget L k hk]; exact hl⟩
    · exact .inr hs
  · rintro L w (⟨k, hk, hl⟩ | hs)
    · exact .inl ⟨k, hk, by rw [hget L k hk] at hl; exact hl⟩
    · exact .inr hs
  · exact .inl ⟨by simp [Region.wanted, hg], fun w _ => hy w⟩
end Go.Proofs.YtfnibkodccfocaaGreat
