/- Several texts in one. -/
import Derived.Test.YthlfhfkfjefidaaGreatSim2
import Derived.WalkKit
import Derived.Test.YthlfhfkfjefidaaGreatRefA
/- A region that draws its order, walked along one line: loads are taken first, what is left stands in one order, and a last store may hit what was loaded. -/
namespace Go.Proofs.YthlfhfkfjefidaaGreat
open Go Go.RowKit Go.Proofs.YthlfhfkfjefidaaGreat.Sim
section
variable {P : Program} {ops : Array Oper} {Q : Exit → Act → World → Prop} {S : World → Prop} {D : List Nat}
def SD (S : World → Prop) (D : List Nat) (L : Array Bool) (w : World) : Prop := (∃ k ∈ D, L.getD k false = true) ∨ S w
def waitsB (ops : Array Oper) (D : List Nat) (i : Nat) (L : Array Bool) : Bool :=
 D.all fun k => !L.getD k false && match ops[k]? with
  | some o => o.after.toList.any fun e => Region.binds .any e && (e.on == i || D.contains e.on)
  | none => false
def takeB (ops : Array Oper) (D : List Nat) (i : Nat) (L : Array Bool) : Bool :=
 Region.noSelect ops && (Region.free .any ops L i && ((Region.ready .any ops L).contains i && (waitsB ops D i L && !D.contains i)))
theorem waits_of {i : Nat} {L : Array Bool} (h : waitsB ops D i L = true) : Waits ops (fun k => D.contains k) i L := fun k hk => by
 have h1 := List.all_eq_true.1 h k (by simpa using hk)
 simp only [Bool.and_eq_true, Bool.not_eq_true'] at h1
 refine ⟨h1.1, ?_⟩
 have h2 := h1.2
 split at h2
 · rename_i o ho
   obtain ⟨e, he, h3⟩ := List.any_eq_true.1 h2
   simp only [Bool.and_eq_true, Bool.or_eq_true, beq_iff_eq] at h3
   exact ⟨o, ho, e, by simpa using he, h3.1, h3.2⟩
 · cases h2
theorem goes_take {i n : Nat} {oi : Oper} {v : Value} {L : Array Bool} {a : Act} {w : World} (hi : ops[i]? = some oi) (hB : takeB ops D i L = true) (hg : oi.guard = none)
 (hQ : ∀ c a w, Q (.panic c) (a.put oi.dst v) w → Q (.panic c) a w) (hy : ∀ w, S w → (execOp a.eval oi).run P w = .ok (.value v) w) (hS : S w)
 (h : Goes P ops Q (SD S D) n (L.setIfInBounds i true) (a.put oi.dst v) w) : Goes P ops Q (SD S D) (n + 1) L a w := by
 simp only [takeB, Bool.and_eq_true, Bool.not_eq_true'] at hB
 obtain ⟨h1, h2, h3, h4, h5⟩ := hB
 have hne : ∀ k ∈ D, k ≠ i := fun k hk e => by
  subst e
  have : D.contains k = true := by simpa using hk
  rw [this] at h5
  cases h5
 have hget : ∀ (L : Array Bool) (k : Nat), k ∈ D → (L.setIfInBounds i true).getD k false = L.getD k false := fun L k hk => getD_set_ne false (hne k hk).symm
 refine Goes.take (D := fun k => D.contains k) hi h1 hQ ?_ ?_ n L a w (Region.free_spec hi h2) (by simpa using h3) (waits_of h4) ?_ (.inr hS) h
 · rintro L w (⟨k, hk, hl⟩ | hs)
   · exact .inl ⟨k, hk, by rw [hget L k hk]; exact hl⟩
   · exact .inr hs
 · rintro L w (⟨k, hk, hl⟩ | hs)
   · exact .inl ⟨k, hk, by rw [hget L k hk] at hl; exact hl⟩
   · exact .inr hs
 · refine .inl ⟨by simp [Region.wanted, hg], ?_⟩
   rintro w ⟨L, hD, ⟨k, hk, hl⟩ | hs⟩
   · rw [hD k (by simpa using hk)] at hl
     cases hl
   · exact hy w hs
def takeE (ops : Array Oper) (D E : List Nat) (i : Nat) (L : Array Bool) : Bool :=
 Region.noSelect ops && (Region.free .any ops L i && ((Region.ready .any ops L).contains i && (waitsB ops E i L && (!D.contains i && D.all fun k => E.contains k))))
theorem goes_takeE {i n : Nat} {oi : Oper} {v : Value} {L : Array Bool} {a : Act} {w : World} (E : List Nat) (hi : ops[i]? = some oi) (hB : takeE ops D E i L = true) (hg : oi.guard = none)
 (hQ : ∀ c a w, Q (.panic c) (a.put oi.dst v) w → Q (.panic c) a w) (hy : ∀ w, S w → (execOp a.eval oi).run P w = .ok (.value v) w) (hS : S w)
 (h : Goes P ops Q (SD S D) n (L.setIfInBounds i true) (a.put oi.dst v) w) : Goes P ops Q (SD S D) (n + 1) L a w := by
 simp only [takeE, Bool.and_eq_true, Bool.not_eq_true'] at hB
 obtain ⟨h1, h2, h3, h4, h5, h6⟩ := hB
 have hne : ∀ k ∈ D, k ≠ i := fun k hk e => by
  subst e
  have : D.contains k = true := by simpa using hk
  rw [this] at h5
  cases h5
 have hget : ∀ (L : Array Bool) (k : Nat), k ∈ D → (L.setIfInBounds i true).getD k false = L.getD k false := fun L k hk => getD_set_ne false (hne k hk).symm
 refine Goes.take (D := fun k => E.contains k) hi h1 hQ ?_ ?_ n L a w (Region.free_spec hi h2) (by simpa using h3) (waits_of h4) ?_ (.inr hS) h
 · rintro L w (⟨k, hk, hl⟩ | hs)
   · exact .inl ⟨k, hk, by rw [hget L k hk]; exact hl⟩
   · exact .inr hs
 · rintro L w (⟨k, hk, hl⟩ | hs)
   · exact .inl ⟨k, hk, by rw [hget L k hk] at hl; exact hl⟩
   · exact .inr hs
 · refine .inl ⟨by simp [Region.wanted, hg], ?_⟩
   rintro w ⟨L, hD, ⟨k, hk, hl⟩ | hs⟩
   · rw [hD k (List.all_eq_true.1 h6 k hk)] at hl
     cases hl
   · exact hy w hs
def Behind (Q : Exit → Act → World → Prop) (K : Act → World → Prop) : Exit → Act → World → Prop
 | .normal, a, w => K a w
 | e, a, w => Q e a w
theorem behind_ok {K : Act → World → Prop} {a : Act} {w : World} (h : K a w) : Behind Q K .normal a w := h
theorem wpOp_of_list {i : Nat} {oi : Oper} {a : Act} {w : World} {K : Act → World → Prop} (hi : ops[i]? = some oi) (h : wpList P ops (Behind Q K) [oi] a w) : wpOp P ops Q i K a w := by
 unfold wpOp
 rw [hi]
 dsimp only
 unfold wpList at h
 split
 · rename_i hw
   rw [if_pos hw] at h
   rcases h with h | ⟨h1, h2⟩
   · left
     unfold Oper.wp at h ⊢
     generalize (execOp a.eval oi).run P w = r at h ⊢
     unfold Oper.upon at h ⊢
     split <;> simp_all [wpList, Behind, LetsOut]
   · right
     exact ⟨h1, h2⟩
 · rename_i hw
   rw [if_neg hw] at h
   exact h
theorem goes_call {i n : Nat} {oi : Oper} {L : Array Bool} {a : Act} {w : World} (hi : ops[i]? = some oi) (hr : Region.ready .any ops L = [i])
 (h : wpList P ops (Behind Q fun a' w' => S w' ∧ Goes P ops Q (SD S D) n (L.setIfInBounds i true) a' w') [oi] a w) : Goes P ops Q (SD S D) (n + 1) L a w := by
 refine Goes.all hr (by simp) fun j hj => ?_
 obtain rfl : j = i := by simpa using hj
 exact wpOp_mono (fun a' w' h => ⟨.inr h.1, h.2⟩) (wpOp_of_list hi h)
theorem goes_last {i n : Nat} {oi : Oper} {L : Array Bool} {a : Act} {w : World} (hi : ops[i]? = some oi) (hr : Region.ready .any ops L = [i]) (hd : (D.contains i && (L.setIfInBounds i true).getD i false) = true)
 (h : wpList P ops (Behind Q fun a' w' => Goes P ops Q (SD S D) n (L.setIfInBounds i true) a' w') [oi] a w) : Goes P ops Q (SD S D) (n + 1) L a w := by
 refine Goes.all hr (by simp) fun j hj => ?_
 obtain rfl : j = i := by simpa using hj
 simp only [Bool.and_eq_true] at hd
 exact wpOp_mono (fun a' w' h => ⟨.inl ⟨j, by simpa using hd.1, hd.2⟩, h⟩) (wpOp_of_list hi h)
theorem goes_done {n : Nat} {L : Array Bool} {a : Act} {w : World} (hr : Region.ready .any ops L = []) (h : Q .normal a w) : Goes P ops Q (SD S D) n L a w := Goes.done hr h n
theorem region_goes {id n : Nat} {a : Act} {w : World} (S : World → Prop) (D : List Nat) (hm : P.follows .mixedOrders = true) (hn : ops.size = n) (h : Goes P ops Q (SD S D) n (Array.replicate n false) a w.drew) : (Code.region id ops true).wp P Q a w := by
 subst hn
 exact wp_region_any hm (Goes.any _ _ a w.drew h)
end
end Go.Proofs.YthlfhfkfjefidaaGreat
/- A region that draws its order, walked along one line: two allocations that wait for nothing may come up anywhere between the calls. -/
namespace Go.Proofs.YthlfhfkfjefidaaGreat
open Go Go.RowKit Go.Proofs.YthlfhfkfjefidaaGreat.Sim
def FloOk (D0 : Nat) (t : TypeId) (z : Array Value) (d : Bool) (v : Value) (w : World) : Prop := d = true → ∃ g, v = .pointer (some ⟨g, 0, none⟩) ∧ D0 ≤ g ∧ Bk w g t z
def LF (L : Array Bool) (iA iB : Nat) : Bool → Bool → Array Bool
 | false, false => L
 | true, false => L.setIfInBounds iA true
 | false, true => L.setIfInBounds iB true
 | true, true => (L.setIfInBounds iA true).setIfInBounds iB true
def nF (n : Nat) : Bool → Bool → Nat
 | false, false => n + 2
 | true, true => n
 | _, _ => n + 1
def FloAt (S : World → Prop) (D0 : Nat) (t : TypeId) (z : Array Value) (w0 : World) (dA dB : Bool) (vA vB : Value) (w : World) : Prop :=
 Below w0.heap.size w0 w ∧ FloOk D0 t z dA vA w ∧ FloOk D0 t z dB vB w ∧ (dA = true → dB = true → vA ≠ vB) ∧ S w
def FloT (P : Program) (ops : Array Oper) (Q : Exit → Act → World → Prop) (S : World → Prop) (D : List Nat) (iA iB D0 : Nat) (t : TypeId) (z : Array Value) (n : Nat) (L : Array Bool) (w0 : World) (fr : Value → Value → Act) : Prop :=
 ∀ dA dB vA vB w, FloAt S D0 t z w0 dA dB vA vB w → Goes P ops Q (SD S D) (nF n dA dB) (LF L iA iB dA dB) (fr vA vB) w
section
variable {P : Program} {ops : Array Oper} {Q : Exit → Act → World → Prop} {S : World → Prop} {D : List Nat} {iA iB D0 : Nat} {t : TypeId} {z : Array Value}
theorem below_alloc1 (w : World) (o : Obj) : Below w.heap.size w (w.alloc o) := (Below.refl _ w).alloc (Nat.le_refl _) o
end
theorem goes_pure {P : Program} {ops : Array Oper} {Q : Exit → Act → World → Prop} {S : World → Prop} {D : List Nat} {i n : Nat} {oi : Oper} {v : Value} {L : Array Bool} {a : Act} {w : World} (hi : ops[i]? = some oi) (hB : (takeE ops [] [] i L && !D.contains i) = true) (hg : oi.guard = none)
 (hQ : ∀ c a w, Q (.panic c) (a.put oi.dst v) w → Q (.panic c) a w) (hy : ∀ w, (execOp a.eval oi).run P w = .ok (.value v) w) (hS : S w)
 (h : Goes P ops Q (SD S D) n (L.setIfInBounds i true) (a.put oi.dst v) w) : Goes P ops Q (SD S D) (n + 1) L a w := by
 simp only [takeE, Bool.and_eq_true, Bool.not_eq_true'] at hB
 obtain ⟨⟨h1, h2, h3, h4, h5⟩, h6⟩ := hB
 have hne : ∀ k ∈ D, k ≠ i := fun k hk e => by
  subst e
  have : D.contains k = true := by simpa using hk
  rw [this] at h6
  cases h6
 have hget : ∀ (L : Array Bool) (k : Nat), k ∈ D → (L.setIfInBounds i true).getD k false = L.getD k false := fun L k hk => getD_set_ne false (hne k hk).symm
 refine Goes.take (D := fun _ => false) hi h1 hQ ?_ ?_ n L a w (Region.free_spec hi h2) (by simpa using h3) (fun k hk => by cases hk) ?_ (.inr hS) h
 · rintro L w (⟨k, hk, hl⟩ | hs)
   · exact .inl ⟨k, hk, by rw [hget L k hk]; exact hl⟩
   · exact .inr hs
 · rintro L w (⟨k, hk, hl⟩ | hs)
   · exact .inl ⟨k, hk, by rw [hget L k hk] at hl; exact hl⟩
   · exact .inr hs
 · exact .inl ⟨by simp [Region.wanted, hg], fun w _ => hy w⟩
end Go.Proofs.YthlfhfkfjefidaaGreat
/- A region that draws its order, walked along one line: operations with guards. -/
namespace Go.Proofs.YthlfhfkfjefidaaGreat
open Go Go.RowKit Go.Proofs.YthlfhfkfjefidaaGreat.Sim
section
variable {P : Program} {ops : Array Oper} {Q : Exit → Act → World → Prop} {S : World → Prop}
theorem goes_met {i n : Nat} {oi : Oper} {v : Value} {L : Array Bool} {a : Act} {w : World} (hi : ops[i]? = some oi) (hB : takeE ops [] [] i L = true) (hw : Region.wanted oi (yielded ops a.tmps) = true)
 (hQ : ∀ c a w, Q (.panic c) (a.put oi.dst v) w → Q (.panic c) a w) (hy : ∀ w, S w → (execOp a.eval oi).run P w = .ok (.value v) w) (hS : S w)
 (h : Goes P ops Q (SD S []) n (L.setIfInBounds i true) (a.put oi.dst v) w) : Goes P ops Q (SD S []) (n + 1) L a w := by
 simp only [takeE, Bool.and_eq_true, Bool.not_eq_true'] at hB
 obtain ⟨h1, h2, h3, h4, h5, h6⟩ := hB
 refine Goes.take (D := fun k => ([] : List Nat).contains k) hi h1 hQ ?_ ?_ n L a w (Region.free_spec hi h2) (by simpa using h3) (waits_of h4) ?_ (.inr hS) h
 · rintro L w (⟨k, hk, hl⟩ | hs)
   · cases hk
   · exact .inr hs
 · rintro L w (⟨k, hk, hl⟩ | hs)
   · cases hk
   · exact .inr hs
 · refine .inl ⟨hw, ?_⟩
   rintro w ⟨L, hD, ⟨k, hk, hl⟩ | hs⟩
   · cases hk
   · exact hy w hs
theorem goes_skip {i n : Nat} {oi : Oper} {L : Array Bool} {a : Act} {w : World} (hi : ops[i]? = some oi) (hB : takeE ops [] [] i L = true) (hw : Region.wanted oi (yielded ops a.tmps) = false)
 (hQ : ∀ c a w, Q (.panic c) (a.put oi.dst undef) w → Q (.panic c) a w) (hS : S w)
 (h : Goes P ops Q (SD S []) n (L.setIfInBounds i true) (a.put oi.dst undef) w) : Goes P ops Q (SD S []) (n + 1) L a w := by
 simp only [takeE, Bool.and_eq_true, Bool.not_eq_true'] at hB
 obtain ⟨h1, h2, h3, h4, h5, h6⟩ := hB
 refine Goes.take (D := fun k => ([] : List Nat).contains k) hi h1 hQ ?_ ?_ n L a w (Region.free_spec hi h2) (by simpa using h3) (waits_of h4) ?_ (.inr hS) h
 · rintro L w (⟨k, hk, hl⟩ | hs)
   · cases hk
   · exact .inr hs
 · rintro L w (⟨k, hk, hl⟩ | hs)
   · cases hk
   · exact .inr hs
 · exact .inr ⟨hw, rfl⟩
end
end Go.Proofs.YthlfhfkfjefidaaGreat
