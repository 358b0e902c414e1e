/- Whatever order a region draws, with a condition on the world that looks at what has come up. No program is named here. -/
import Derived.Test.YtfnphhmcbdoojaaGreatDoorSimR
namespace Go.Proofs.YtfnphhmcbdoojaaGreatDoor.Sim
open Go Go.RowKit Go.WideShapes

noncomputable section
section
variable {P : Program} {ops : Array Oper} {Q : Exit → Act → World → Prop} {S : Array Bool → World → Prop}
/-- Whatever comes up next: S of what has come up holds behind it, and so on. -/
def Goes (P : Program) (ops : Array Oper) (Q : Exit → Act → World → Prop) (S : Array Bool → World → Prop) : Nat → Array Bool → Act → World → Prop
  | 0, L, a, w => Region.ready .any ops L = [] ∧ Q .normal a w
  | n + 1, L, a, w => (Region.ready .any ops L = [] → Q .normal a w) ∧
    ∀ i, i ∈ Region.ready .any ops L → wpOp P ops Q i (fun a' w' => S (L.setIfInBounds i true) w' ∧ Goes P ops Q S n (L.setIfInBounds i true) a' w') a w
theorem Goes.any : ∀ (n : Nat) (L : Array Bool) (a : Act) (w : World), Goes P ops Q S n L a w → wpAny P .any ops Q n L a w
  | 0, _, _, _, h => h
  | n + 1, _, _, _, h => ⟨h.1, fun i hi => wpOp_mono (fun a' w' k => Goes.any n _ a' w' k.2) (h.2 i hi)⟩
theorem Goes.done {L : Array Bool} {a : Act} {w : World} (hr : Region.ready .any ops L = []) (h : Q .normal a w) : ∀ n, Goes P ops Q S n L a w
  | 0 => ⟨hr, h⟩
  | _ + 1 => ⟨fun _ => h, by rw [hr]; simp⟩
theorem Goes.all {rs : List Nat} {n : Nat} {L : Array Bool} {a : Act} {w : World} (hr : Region.ready .any ops L = rs) (hne : rs ≠ []) (h : ∀ i, i ∈ rs → wpOp P ops Q i (fun a' w' => S (L.setIfInBounds i true) w' ∧ Goes P ops Q S n (L.setIfInBounds i true) a' w') a w) : Goes P ops Q S (n + 1) L a w :=
  ⟨fun h0 => absurd (hr ▸ h0) hne, hr ▸ h⟩
/-- Those of D have not come up, and each waits for i or for one of D. -/
def Waits (ops : Array Oper) (D : Nat → Bool) (i : Nat) (L : Array Bool) : Prop := ∀ k, D k = true → L.getD k false = false ∧ ∃ o, ops[k]? = some o ∧ ∃ e ∈ o.after, Region.binds .any e = true ∧ (e.on = i ∨ D e.on = true)
theorem Waits.step {D : Nat → Bool} {i j : Nat} {L : Array Bool} (h : Waits ops D i L) (hiL : L.getD i true = false) (hj : j ∈ Region.ready .any ops L) : Waits ops D i (L.setIfInBounds j true) := fun k hk => by
  obtain ⟨h1, h2⟩ := h k hk
  refine ⟨?_, h2⟩
  rw [getD_set_ne false ?_]
  · exact h1
  · rintro rfl
    obtain ⟨o, ho, e, he, hb, hon⟩ := h2
    obtain ⟨-, o2, ho2, hall⟩ := mem_ready.1 hj
    rw [ho] at ho2
    cases ho2
    have := hall e he hb
    rcases hon with hon | hon
    · rw [hon] at this
      rcases Nat.lt_or_ge i L.size with hlt | hge
      · simp [hlt] at hiL this
        rw [hiL] at this
        cases this
      · simp [Array.getElem?_eq_none hge] at this
    · rw [(h _ hon).1] at this
      cases this
/-- An operation may be taken first if it yields in every world that meets S of such as hold nothing of D. -/
theorem Goes.take {i : Nat} {oi : Oper} {v : Value} {D : Nat → Bool} (hi : ops[i]? = some oi) (hs : Region.noSelect ops = true) (hQ : ∀ c a w, Q (.panic c) (a.put oi.dst v) w → Q (.panic c) a w)
    (hup : ∀ L w, S L w → S (L.setIfInBounds i true) w) (hdown : ∀ L w, S (L.setIfInBounds i true) w → S L w) :
    ∀ (n : Nat) (L : Array Bool) (a : Act) (w : World),
      (∀ j oj, ops[j]? = some oj → j ≠ i → L.getD j true = false → (∀ e ∈ oj.after, Region.binds .any e = true → e.on ≠ i) → oi.apart ops oj = true) →
      i ∈ Region.ready .any ops L → Waits ops D i L → YieldsIf P ops (fun w => ∃ L, (∀ k, D k = true → L.getD k false = false) ∧ S L w) oi v a → S L w →
      Goes P ops Q S n (L.setIfInBounds i true) (a.put oi.dst v) w → Goes P ops Q S (n + 1) L a w := by
  intro n
  have now : ∀ {n : Nat} {L : Array Bool} {a : Act} {w : World}, Waits ops D i L → YieldsIf P ops (fun w => ∃ L, (∀ k, D k = true → L.getD k false = false) ∧ S L w) oi v a → S L w →
      Goes P ops Q S n (L.setIfInBounds i true) (a.put oi.dst v) w → wpOp P ops Q i (fun a' w' => S (L.setIfInBounds i true) w' ∧ Goes P ops Q S n (L.setIfInBounds i true) a' w') a w :=
    fun {n L a w} hD hy hS H => hy.wpOp hi ⟨L, fun k hk => (hD k hk).1, hS⟩ ⟨hup L w hS, H⟩
  induction n with
  | zero =>
    intro L a w _ hr hD hy hS H
    refine ⟨fun h => (by rw [h] at hr; cases hr), fun j hj => ?_⟩
    by_cases hji : j = i
    · subst hji
      exact now hD hy hS H
    · have := ready_mono hj hji
      rw [H.1] at this
      cases this
  | succ n ih =>
    intro L a w hf hr hD hy hS H
    refine ⟨fun h => (by rw [h] at hr; cases hr), fun j hj => ?_⟩
    by_cases hji : j = i
    · subst hji
      exact now hD hy hS H
    · have h1 := H.2 j (ready_mono hj hji)
      obtain ⟨hju, oj, hoj, hall⟩ := mem_ready.1 hj
      have hiu := (mem_ready.1 hr).1
      have hnot : ∀ e ∈ oj.after, Region.binds .any e = true → e.on ≠ i := fun e he hb heq => by
        have h2 := hall e he hb
        rw [heq] at h2
        rcases Nat.lt_or_ge i L.size with hlt | hge
        · simp [hlt] at hiu h2
          rw [hiu] at h2
          cases h2
        · simp [Array.getElem?_eq_none hge] at h2
      have hsel := fun (j : Nat) (o : Oper) (cs : Array SelectCase) (b : Bool) (h : ops[j]? = some o) => Region.noSelect_spec hs j o cs b h
      have h2 := wpOp_putIf hoj (hf j oj hoj hji hju hnot) (fun cs b => hsel i oi cs b hi) (fun cs b => hsel j oj cs b hoj) hQ hy h1
      refine wpOp_mono (fun a' w' h3 => ?_) h2
      rw [Array.setIfInBounds_comm _ _ (Ne.symm hji)] at h3
      refine ⟨hdown _ _ h3.2.1, ih (L.setIfInBounds j true) a' w' (fun k ok hk hki hun hno => ?_) (ready_mono hr (Ne.symm hji)) (hD.step hiu hj) h3.1 (hdown _ _ h3.2.1) h3.2.2⟩
      refine hf k ok hk hki ?_ hno
      by_cases hjk : j = k
      · subst hjk; exact hju
      · rwa [getD_set_ne true hjk] at hun
end
/-- The masks of those that wait for one of acc, directly or not (one pass). -/
def later : List Row → Nat → Nat
  | [], acc => acc
  | ⟨_, p, a, _⟩ :: r, acc => match Nat.beq (Nat.land a acc) 0 with
    | true => later r acc
    | false => later r (Nat.lor acc p)
theorem later_bit {ops : Array Oper} {k : Nat} : ∀ {T : List Row} {acc : Nat}, (∀ x ∈ T, x.fine ops) → (∀ k, acc.testBit k = true → (later T acc).testBit k = true) ∧ ((later T acc).testBit k = true → acc.testBit k = true ∨ ∃ o, ops[k]? = some o ∧ ∃ e ∈ o.after, Region.binds .any e = true ∧ (later T acc).testBit e.on = true)
  | [], acc, _ => ⟨fun _ h => h, fun h => .inl h⟩
  | ⟨i, p, a, o⟩ :: r, acc, hT => by
    have hr : ∀ x ∈ r, x.fine ops := fun x hx => hT x (by simp [hx])
    obtain ⟨f1, f2, f3⟩ := hT ⟨i, p, a, o⟩ (by simp)
    simp only at f1 f2 f3
    simp only [later]
    split
    · exact later_bit hr
    · rename_i hne
      obtain ⟨g1, g2⟩ := later_bit (k := k) (acc := Nat.lor acc p) hr
      have up : ∀ k, acc.testBit k = true → (Nat.lor acc p).testBit k = true := fun k hk => by
        show (acc ||| p).testBit k = true
        rw [Nat.testBit_or, hk]
        rfl
      refine ⟨fun k hk => g1 k (up k hk), fun hk => ?_⟩
      rcases g2 hk with h | h
      · rw [show Nat.lor acc p = acc ||| p from rfl, Nat.testBit_or, Bool.or_eq_true] at h
        rcases h with h | h
        · exact .inl h
        · rw [f2, show Nat.pow 2 i = 2 ^ i from rfl, Nat.testBit_two_pow] at h
          have hik : i = k := by simpa using h
          subst hik
          right
          have hz : a &&& acc ≠ 0 := fun e => by
            rw [show Nat.land a acc = 0 from e] at hne
            simp at hne
          obtain ⟨q, hq⟩ := Nat.exists_testBit_of_ne_zero hz
          rw [Nat.testBit_and, Bool.and_eq_true] at hq
          rw [f3, amask_bit] at hq
          obtain ⟨e, he, hb⟩ := List.any_eq_true.1 hq.1
          simp only [Bool.and_eq_true, beq_iff_eq] at hb
          exact ⟨o, f1, e, by simpa using he, hb.1, g1 _ (by rw [hb.2]; exact up q hq.2)⟩
      · exact .inr h
def dmask (T : List Row) (p : Nat) : Nat := Nat.xor (later T p) p
theorem dmask_waits {ops : Array Oper} {T : List Row} (hT : ∀ x ∈ T, x.fine ops) {i m n : Nat} {L : Array Bool} (hm : Msk m L n) (hd : Nat.beq (Nat.land m (dmask T (Nat.pow 2 i))) 0 = true) : Waits ops (fun k => (dmask T (Nat.pow 2 i)).testBit k) i L := fun k hk => by
  have hx : ∀ q, (dmask T (Nat.pow 2 i)).testBit q = ((later T (2 ^ i)).testBit q ^^ decide (i = q)) := fun q => by
    unfold dmask
    show (later T (2 ^ i) ^^^ 2 ^ i).testBit q = _
    rw [Nat.testBit_xor, Nat.testBit_two_pow]
  have hself : (later T (2 ^ i)).testBit i = true := (later_bit (k := i) hT).1 i (by rw [Nat.testBit_two_pow]; simp)
  simp only at hk
  refine ⟨?_, ?_⟩
  · rw [← hm.2]
    have e : (m &&& dmask T (Nat.pow 2 i)) = 0 := (beq_of _ _).1 hd
    have : (m &&& dmask T (Nat.pow 2 i)).testBit k = false := by rw [e, Nat.zero_testBit]
    rw [Nat.testBit_and, hk] at this
    simpa using this
  · rw [hx] at hk
    by_cases hik : i = k
    · subst hik
      rw [hself] at hk
      simp at hk
    · simp [hik] at hk
      rcases (later_bit (k := k) hT).2 hk with h | ⟨o, h1, e, h2, h3, h4⟩
      · rw [Nat.testBit_two_pow] at h
        exact absurd (by simpa using h) hik
      · refine ⟨o, h1, e, h2, h3, ?_⟩
        by_cases hie : i = e.on
        · exact .inl hie.symm
        · right
          show (dmask T (Nat.pow 2 i)).testBit e.on = true
          rw [hx, h4]
          simp [hie]
end
end Go.Proofs.YtfnphhmcbdoojaaGreatDoor.Sim
