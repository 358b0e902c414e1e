/- What of a region may come next, by masks of bits. No program is named here. -/
import Derived.Test.YtfnphhmcbdoojaaGreatDoorSimM
namespace Go.Proofs.YtfnphhmcbdoojaaGreatDoor.Sim
open Go Go.RowKit Go.WideShapes

noncomputable section
variable {P : Program}
def amask : List Edge → Nat
  | [] => 0
  | e :: r => match Region.binds .any e with
    | true => Nat.lor (Nat.pow 2 e.on) (amask r)
    | false => amask r
theorem amask_bit (k : Nat) : ∀ es : List Edge, (amask es).testBit k = es.any fun e => Region.binds .any e && e.on == k
  | [] => by simp [amask]
  | e :: r => by
    have ih := amask_bit k r
    simp only [amask, List.any_cons]
    cases hb : Region.binds .any e with
    | true =>
      show (2 ^ e.on ||| amask r).testBit k = _
      rw [Nat.testBit_or, ih, Nat.testBit_two_pow]
      simp
      rfl
    | false => simp [ih]
structure Row where
  i : Nat
  p : Nat
  a : Nat
  o : Oper
def rows : List Oper → Nat → List Row
  | [], _ => []
  | o :: r, i => ⟨i, Nat.pow 2 i, amask o.after.toList, o⟩ :: rows r (Nat.succ i)
def rdy (m : Nat) : List Row → List Row
  | [] => []
  | ⟨i, p, a, o⟩ :: r => match Nat.beq (Nat.land m p) 0, Nat.beq (Nat.land m a) a with
    | true, true => ⟨i, p, a, o⟩ :: rdy m r
    | _, _ => rdy m r
def Msk (m : Nat) (listed : Array Bool) (n : Nat) : Prop := listed.size = n ∧ ∀ k, m.testBit k = listed.getD k false
theorem Msk.zero (n : Nat) : Msk 0 (Array.replicate n false) n := ⟨by simp, fun k => by
  rw [Nat.zero_testBit, Array.getD_eq_getD_getElem?, Array.getElem?_replicate]
  split <;> rfl⟩
theorem Msk.set {m n : Nat} {listed : Array Bool} (h : Msk m listed n) {i : Nat} (hi : i < n) : Msk (Nat.lor m (Nat.pow 2 i)) (listed.setIfInBounds i true) n := ⟨by simp [h.1], fun k => by
  show (m ||| 2 ^ i).testBit k = _
  rw [Nat.testBit_or, Nat.testBit_two_pow, h.2 k, Array.getD_eq_getD_getElem?, Array.getD_eq_getD_getElem?, Array.getElem?_setIfInBounds]
  by_cases hik : i = k
  · subst hik
    simp [h.1, hi]
  · simp [hik]⟩
theorem land_sub {m a : Nat} : Nat.beq (Nat.land m a) a = true ↔ ∀ k, a.testBit k = true → m.testBit k = true := by
  rw [beq_of]
  constructor
  · intro h k hk
    have : (m &&& a).testBit k = a.testBit k := by rw [show m &&& a = a from h]
    rw [Nat.testBit_and, hk] at this
    simpa using this
  · intro h
    show m &&& a = a
    refine Nat.eq_of_testBit_eq fun k => ?_
    rw [Nat.testBit_and]
    cases hk : a.testBit k with
    | false => simp
    | true => simp [h k hk]
theorem land_pow {m i : Nat} : Nat.beq (Nat.land m (Nat.pow 2 i)) 0 = !m.testBit i := by
  have e : Nat.land m (Nat.pow 2 i) = 0 ↔ m.testBit i = false := by
    constructor
    · intro h
      have : (m &&& 2 ^ i).testBit i = false := by rw [show m &&& 2 ^ i = 0 from h, Nat.zero_testBit]
      rw [Nat.testBit_and, Nat.testBit_two_pow] at this
      simpa using this
    · intro h
      show m &&& 2 ^ i = 0
      refine Nat.eq_of_testBit_eq fun k => ?_
      rw [Nat.testBit_and, Nat.testBit_two_pow, Nat.zero_testBit]
      by_cases hk : i = k
      · subst hk; simp [h]
      · simp [hk]
  cases ht : m.testBit i with
  | false => rw [e.2 ht]; rfl
  | true =>
    cases hb : Nat.beq (Nat.land m (Nat.pow 2 i)) 0 with
    | false => rfl
    | true => rw [e.1 ((beq_of _ _).1 hb)] at ht; cases ht
def Row.fine (ops : Array Oper) (x : Row) : Prop := ops[x.i]? = some x.o ∧ x.p = Nat.pow 2 x.i ∧ x.a = amask x.o.after.toList
theorem drop_at {ops : Array Oper} {i : Nat} {o : Oper} {r : List Oper} (hl : ops.toList.drop i = o :: r) : ops[i]? = some o ∧ ops.toList.drop (i + 1) = r := by
  constructor
  · have h1 : (ops.toList.drop i)[0]? = some o := by rw [hl]; rfl
    rw [List.getElem?_drop] at h1
    simpa using h1
  · rw [← List.drop_drop, hl]
    rfl
theorem rows_fine {ops : Array Oper} : ∀ {l : List Oper} {i : Nat}, ops.toList.drop i = l → ∀ x ∈ rows l i, x.fine ops
  | [], _, _, x, hx => by simp [rows] at hx
  | o :: r, i, hl, x, hx => by
    obtain ⟨h1, h2⟩ := drop_at hl
    simp only [rows, List.mem_cons] at hx
    rcases hx with rfl | hx
    · exact ⟨h1, rfl, rfl⟩
    · exact rows_fine h2 x hx
theorem rdy_sub {m : Nat} : ∀ {l : List Row} {x : Row}, x ∈ rdy m l → x ∈ l
  | [], x, h => by simp [rdy] at h
  | ⟨i, p, a, o⟩ :: r, x, h => by
    simp only [rdy] at h
    split at h
    · rcases List.mem_cons.1 h with rfl | h
      · simp
      · exact List.mem_cons_of_mem _ (rdy_sub h)
    · exact List.mem_cons_of_mem _ (rdy_sub h)
theorem rdy_eq {ops : Array Oper} {m : Nat} {listed : Array Bool} (hm : Msk m listed ops.size) : ∀ {l : List Oper} {i : Nat}, ops.toList.drop i = l → i + l.length = ops.size →
    (rdy m (rows l i)).map (·.i) = (List.range' i l.length).filter fun i => !listed.getD i true && ((ops[i]?).map (·.after.all fun e => !Region.binds .any e || listed.getD e.on false)).getD false
  | [], _, _, _ => by simp [rows, rdy]
  | o :: r, i, hl, hn => by
    obtain ⟨h1, h2⟩ := drop_at hl
    simp only [List.length_cons] at hn
    have ih := rdy_eq (m := m) hm (i := i + 1) h2 (by omega)
    have hi : i < ops.size := by omega
    have e1 : Nat.beq (Nat.land m (Nat.pow 2 i)) 0 = !listed.getD i true := by
      rw [land_pow, hm.2 i, Array.getD_eq_getD_getElem?, Array.getD_eq_getD_getElem?]
      rw [Array.getElem?_eq_getElem (by rw [hm.1]; exact hi)]
      rfl
    have e2 : Nat.beq (Nat.land m (amask o.after.toList)) (amask o.after.toList) = (o.after.all fun e => !Region.binds .any e || listed.getD e.on false) := by
      rw [Bool.eq_iff_iff, land_sub]
      rw [← Array.all_toList, List.all_eq_true]
      constructor
      · intro h e he
        cases hb : Region.binds .any e with
        | false => rfl
        | true =>
          have := h e.on (by rw [amask_bit]; exact List.any_eq_true.2 ⟨e, he, by simp [hb]⟩)
          rw [hm.2] at this
          simp [this]
      · intro h k hk
        rw [amask_bit] at hk
        obtain ⟨e, he, hb⟩ := List.any_eq_true.1 hk
        simp only [Bool.and_eq_true, beq_iff_eq] at hb
        have := h e he
        rw [hb.1, hb.2] at this
        rw [hm.2]
        simpa using this
    simp only [rows, rdy, List.length_cons, List.range'_succ, List.filter_cons, h1, Option.map_some, Option.getD_some]
    rw [← e1, ← e2]
    cases ha : Nat.beq (Nat.land m (Nat.pow 2 i)) 0 <;> cases hb : Nat.beq (Nat.land m (amask o.after.toList)) (amask o.after.toList) <;> simp only [Bool.and_true, Bool.and_false, Bool.false_eq_true, if_false, if_true, Bool.and_self, List.map_cons] <;> rw [← ih]
theorem rdy_all {ops : Array Oper} {m : Nat} {listed : Array Bool} (hm : Msk m listed ops.size) : Region.ready .any ops listed = (rdy m (rows ops.toList 0)).map (·.i) := by
  rw [rdy_eq hm (by simp) (by simp)]
  rw [Array.length_toList, ← List.range_eq_range']
  rfl
def cmask (ops : Array Oper) (i : Nat) (oi : Oper) : List Oper → Nat → Nat
  | [], _ => 0
  | oj :: r, j => match Nat.beq j i || (oj.after.toList.any (fun e => Region.binds .any e && Nat.beq e.on i) || oi.apart ops oj) with
    | true => cmask ops i oi r (Nat.succ j)
    | false => Nat.lor (Nat.pow 2 j) (cmask ops i oi r (Nat.succ j))
theorem cmask_bit {ops : Array Oper} {i : Nat} {oi : Oper} : ∀ {l : List Oper} {j : Nat} (d : Nat) {oj : Oper}, l[d]? = some oj → (Nat.beq (j + d) i || (oj.after.toList.any (fun e => Region.binds .any e && Nat.beq e.on i) || oi.apart ops oj)) = false → (cmask ops i oi l j).testBit (j + d) = true
  | [], _, d, _, h, _ => by simp at h
  | o :: r, j, 0, oj, h, hf => by
    simp only [List.getElem?_cons_zero, Option.some.injEq] at h
    subst h
    simp only [Nat.add_zero] at hf ⊢
    simp only [cmask, hf]
    show (2 ^ j ||| cmask ops i oi r (j + 1)).testBit j = true
    rw [Nat.testBit_or, Nat.testBit_two_pow]
    simp
  | o :: r, j, d + 1, oj, h, hf => by
    have := cmask_bit (ops := ops) (i := i) (oi := oi) (l := r) (j := j + 1) d (by simpa using h) (by rw [show j + 1 + d = j + (d + 1) by omega]; exact hf)
    rw [show j + 1 + d = j + (d + 1) by omega] at this
    simp only [cmask]
    split
    · exact this
    · show (2 ^ j ||| cmask ops i oi r (j + 1)).testBit (j + (d + 1)) = true
      rw [Nat.testBit_or, this]
      simp
def freeM (ops : Array Oper) (m i : Nat) (oi : Oper) : Bool := Nat.beq (Nat.land m (cmask ops i oi ops.toList 0)) (cmask ops i oi ops.toList 0)
theorem freeM_eq {ops : Array Oper} {m : Nat} {listed : Array Bool} (hm : Msk m listed ops.size) {i : Nat} {oi : Oper} (hi : ops[i]? = some oi) (h : freeM ops m i oi = true) : Region.free .any ops listed i = true := by
  unfold Region.free
  rw [hi]
  simp only [List.all_eq_true, List.mem_range]
  intro j hj
  have hoj : ops[j]? = some ops[j] := Array.getElem?_eq_getElem hj
  rw [hoj]
  simp only
  cases hc : (Nat.beq (0 + j) i || (ops[j].after.toList.any (fun e => Region.binds .any e && Nat.beq e.on i) || oi.apart ops ops[j])) with
  | true =>
    simp only [Bool.or_eq_true, Nat.zero_add] at hc ⊢
    rcases hc with hc | hc | hc
    · exact .inl (.inl (by simpa using (beq_of _ _).1 hc))
    · refine .inr (.inl ?_)
      rw [← Array.any_toList]
      obtain ⟨e, he, hb⟩ := List.any_eq_true.1 hc
      simp only [Bool.and_eq_true] at hb
      exact List.any_eq_true.2 ⟨e, he, by simp [hb.1, (beq_of _ _).1 hb.2]⟩
    · exact .inr (.inr hc)
  | false =>
    have h1 := cmask_bit (ops := ops) (i := i) (oi := oi) (l := ops.toList) (j := 0) j (by rw [Array.getElem?_toList]; exact hoj) hc
    have h2 := land_sub.1 h _ h1
    rw [hm.2, Nat.zero_add, Array.getD_eq_getD_getElem?, Array.getElem?_eq_getElem (by rw [hm.1]; exact hj)] at h2
    rw [Array.getD_eq_getD_getElem?, Array.getElem?_eq_getElem (by rw [hm.1]; exact hj)]
    simp only [Option.getD_some] at h2 ⊢
    simp [h2]
end
end Go.Proofs.YtfnphhmcbdoojaaGreatDoor.Sim
