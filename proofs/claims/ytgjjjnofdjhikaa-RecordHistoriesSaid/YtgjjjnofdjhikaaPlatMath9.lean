/- Chapter 9: the platforms of a record, sorted and compacted, and put in at their places. No program is named here. -/
import Derived.Test.YtgjjjnofdjhikaaKinds9
import Derived.Lib.SlicesCompact
namespace Go.Proofs.Ytgjjjnofdjhikaa

abbrev Tx := List UInt8
theorem tx_lt {a b : Tx} (h : a ≤ b) (h2 : a ≠ b) : a < b := Classical.byContradiction fun q => h2 (List.le_antisymm h (List.not_lt.1 q))
/-- Compact of an ascending list: strictly ascending, with the same members. -/
theorem cu_ok {l : List Tx} (hl : l.Pairwise fun x y => x ≤ y) : ∀ m ≤ l.length, (Lib.compactUpTo l.toArray m).Pairwise (fun x y => x < y) ∧ ∀ x, x ∈ Lib.compactUpTo l.toArray m ↔ x ∈ l.take m
  | 0, _ => by simp [Lib.compactUpTo]
  | m + 1, hm => by
    obtain ⟨i1, i2⟩ := cu_ok hl m (by omega)
    have hz : l[m]? = some (l[m]'(by omega)) := List.getElem?_eq_getElem (by omega)
    have hg : l.toArray[m]! = l[m]'(by omega) := by rw [getElem!_pos _ _ (by simp; omega)]; rfl
    rw [Lib.compactUpTo_succ, take_step hz]
    by_cases hk : Lib.keeps l.toArray m = true
    · rw [if_pos hk, hg]
      refine ⟨?_, fun x => by rw [List.mem_append, List.mem_append, i2 x]⟩
      rw [List.pairwise_append]
      refine ⟨i1, List.pairwise_singleton _ _, fun x hx y hy => ?_⟩
      obtain rfl := List.mem_singleton.1 hy
      rw [i2 x] at hx
      obtain ⟨i, hi, rfl⟩ := List.mem_iff_getElem.1 hx
      rw [List.length_take] at hi
      rw [List.getElem_take]
      have hle := List.pairwise_iff_getElem.1 hl i m (by omega) (by omega) (by omega)
      refine tx_lt hle fun e => ?_
      have hm0 : m ≠ 0 := by omega
      have hk2 : l.toArray[m]! ≠ l.toArray[m - 1]! := by
        simp only [Lib.keeps, decide_eq_true_eq] at hk
        rcases hk with h | h
        · exact absurd h hm0
        · exact h
      apply hk2
      have hg2 : l.toArray[m - 1]! = l[m - 1]'(by omega) := by rw [getElem!_pos _ _ (by simp; omega)]; rfl
      rw [hg, hg2]
      have h1 : l[m - 1]'(by omega) ≤ l[m]'(by omega) := List.pairwise_iff_getElem.1 hl (m - 1) m (by omega) (by omega) (by omega)
      have h2 : l[i]'(by omega) ≤ l[m - 1]'(by omega) := by
        rcases Nat.lt_or_ge i (m - 1) with h | h
        · exact List.pairwise_iff_getElem.1 hl i (m - 1) (by omega) (by omega) h
        · have : i = m - 1 := by omega
          subst this
          exact List.le_refl _
      exact List.le_antisymm (e ▸ h2) h1
    · rw [if_neg hk, List.append_nil]
      refine ⟨i1, fun x => ?_⟩
      rw [i2 x, List.mem_append]
      constructor
      · exact fun h => .inl h
      · rintro (h | h)
        · exact h
        · obtain rfl := List.mem_singleton.1 h
          have hk2 : m ≠ 0 ∧ l.toArray[m]! = l.toArray[m - 1]! := by
            simp only [Lib.keeps, decide_eq_true_eq] at hk
            exact ⟨fun h => hk (.inl h), Classical.byContradiction fun h => hk (.inr h)⟩
          have hg2 : l.toArray[m - 1]! = l[m - 1]'(by omega) := by rw [getElem!_pos _ _ (by simp; omega)]; rfl
          have e := hk2.2
          rw [hg, hg2] at e
          rw [e]
          have h0 := hk2.1
          exact List.mem_iff_getElem.2 ⟨m - 1, by rw [List.length_take]; omega, by rw [List.getElem_take]⟩
theorem sort_asc (l : List Tx) : (l.mergeSort fun x y => decide (x ≤ y)).Pairwise fun x y => x ≤ y := by
  have := List.pairwise_mergeSort (le := fun x y : Tx => decide (x ≤ y)) (fun a b c h1 h2 => by simp at *; exact List.le_trans h1 h2) (fun a b => by simp; exact List.le_total a b) l
  refine this.imp ?_
  intro a b h
  simpa using h
theorem compact_ok (l : List Tx) : (Lib.compact (l.mergeSort fun x y => decide (x ≤ y))).Pairwise (fun x y => x < y) ∧ ∀ x, x ∈ Lib.compact (l.mergeSort fun x y => decide (x ≤ y)) ↔ x ∈ l := by
  obtain ⟨h1, h2⟩ := cu_ok (sort_asc l) _ (Nat.le_refl _)
  refine ⟨h1, fun x => ?_⟩
  have := h2 x
  rw [List.take_length] at this
  rw [Lib.compact, this]
  exact (List.mergeSort_perm l _).mem_iff
/-- Two strictly ascending lists with the same members are one. -/
theorem asc_unique : ∀ {a b : List Tx}, a.Pairwise (fun x y => x < y) → b.Pairwise (fun x y => x < y) → (∀ x, x ∈ a ↔ x ∈ b) → a = b
  | [], [], _, _, _ => rfl
  | [], y :: b, _, _, h => absurd ((h y).2 (List.mem_cons_self ..)) (by simp)
  | x :: a, [], _, _, h => absurd ((h x).1 (List.mem_cons_self ..)) (by simp)
  | x :: a, y :: b, ha, hb, h => by
    rw [List.pairwise_cons] at ha hb
    have e : x = y := by
      rcases List.mem_cons.1 ((h x).1 (List.mem_cons_self ..)) with e | e
      · exact e
      · rcases List.mem_cons.1 ((h y).2 (List.mem_cons_self ..)) with e2 | e2
        · exact e2.symm
        · exact absurd (List.lt_trans (ha.1 y e2) (hb.1 x e)) (List.lt_irrefl _)
    subst e
    congr 1
    refine asc_unique ha.2 hb.2 fun z => ?_
    constructor
    · intro hz
      rcases List.mem_cons.1 ((h z).1 (List.mem_cons_of_mem _ hz)) with e | e
      · subst e; exact absurd (ha.1 z hz) (List.lt_irrefl _)
      · exact e
    · intro hz
      rcases List.mem_cons.1 ((h z).2 (List.mem_cons_of_mem _ hz)) with e | e
      · subst e; exact absurd (hb.1 z hz) (List.lt_irrefl _)
      · exact e

/-- The place of a text: how many lie before it. -/
def plc (p : Tx) : List Tx → Nat
  | [] => 0
  | x :: r => if x < p then plc p r + 1 else 0
def insP (out : List Tx) (p : Tx) : List Tx := out.take (plc p out) ++ p :: out.drop (plc p out)
theorem plc_le (p : Tx) : ∀ l : List Tx, plc p l ≤ l.length
  | [] => Nat.le_refl _
  | x :: r => by
    have := plc_le p r
    rw [plc]
    split <;> simp only [List.length_cons] <;> omega
theorem ins_mem (out : List Tx) (p x : Tx) : x ∈ insP out p ↔ x ∈ out ∨ x = p := by
  unfold insP
  have e : x ∈ out ↔ x ∈ out.take (plc p out) ∨ x ∈ out.drop (plc p out) := by
    rw [← List.mem_append, List.take_append_drop]
  rw [List.mem_append, List.mem_cons, e]
  constructor
  · rintro (h | h | h)
    · exact .inl (.inl h)
    · exact .inr h
    · exact .inl (.inr h)
  · rintro ((h | h) | h)
    · exact .inl h
    · exact .inr (.inr h)
    · exact .inr (.inl h)
theorem ins_asc {p : Tx} : ∀ {out : List Tx}, out.Pairwise (fun x y => x < y) → p ∉ out → (insP out p).Pairwise fun x y => x < y
  | [], _, _ => by simp [insP, plc]
  | x :: r, h, hp => by
    rw [List.pairwise_cons] at h
    have hx : p ≠ x := fun e => hp (by rw [e]; exact List.mem_cons_self ..)
    by_cases hlt : x < p
    · have e : insP (x :: r) p = x :: insP r p := by simp [insP, plc, hlt]
      rw [e, List.pairwise_cons]
      refine ⟨fun y hy => ?_, ins_asc h.2 fun hm => hp (List.mem_cons_of_mem _ hm)⟩
      rcases (ins_mem r p y).1 hy with hy | rfl
      · exact h.1 y hy
      · exact hlt
    · have e : insP (x :: r) p = p :: x :: r := by simp [insP, plc, hlt]
      have hpx : p < x := tx_lt (List.not_lt.1 hlt) hx
      rw [e, List.pairwise_cons, List.pairwise_cons]
      refine ⟨fun y hy => ?_, h⟩
      rcases List.mem_cons.1 hy with rfl | hy
      · exact hpx
      · exact List.lt_trans hpx (h.1 y hy)
/-- The reference's platforms, event by event. -/
def stepR (out : List Tx) (p : Tx) : List Tx := if p = [] ∨ p ∈ out then out else insP out p
def platsR (l : List Ev) : List Tx := (l.map fun x => x.p.data.toList).foldl stepR []
theorem foldR_ok : ∀ (ps out : List Tx), out.Pairwise (fun x y => x < y) → (ps.foldl stepR out).Pairwise (fun x y => x < y) ∧ ∀ x, x ∈ ps.foldl stepR out ↔ x ∈ out ∨ (x ∈ ps ∧ x ≠ [])
  | [], out, h => ⟨h, fun x => by simp⟩
  | p :: ps, out, h => by
    rw [List.foldl_cons]
    by_cases hc : p = [] ∨ p ∈ out
    · have e : stepR out p = out := by unfold stepR; rw [if_pos hc]
      rw [e]
      obtain ⟨h1, h2⟩ := foldR_ok ps out h
      refine ⟨h1, fun x => ?_⟩
      rw [h2 x, List.mem_cons]
      constructor
      · rintro (h | ⟨h, h3⟩)
        · exact .inl h
        · exact .inr ⟨.inr h, h3⟩
      · rintro (h | ⟨rfl | h, h3⟩)
        · exact .inl h
        · rcases hc with hc | hc
          · exact absurd hc h3
          · exact .inl hc
        · exact .inr ⟨h, h3⟩
    · have e : stepR out p = insP out p := by unfold stepR; rw [if_neg hc]
      have hp0 : p ≠ [] := fun q => hc (.inl q)
      rw [e]
      obtain ⟨h1, h2⟩ := foldR_ok ps (insP out p) (ins_asc h fun q => hc (.inr q))
      refine ⟨h1, fun x => ?_⟩
      rw [h2 x, ins_mem, List.mem_cons]
      constructor
      · rintro ((h | rfl) | ⟨h, h3⟩)
        · exact .inl h
        · exact .inr ⟨.inl rfl, hp0⟩
        · exact .inr ⟨.inr h, h3⟩
      · rintro (h | ⟨rfl | h, h3⟩)
        · exact .inl (.inl h)
        · exact .inl (.inr rfl)
        · exact .inr ⟨h, h3⟩
theorem platsR_step {l : List Ev} {k : Nat} {x : Ev} (hx : l[k]? = some x) : platsR (l.take (k + 1)) = stepR (platsR (l.take k)) x.p.data.toList := by
  unfold platsR
  rw [take_step hx, List.map_append, List.foldl_append]
  rfl
theorem stepR_len (out : List Tx) (p : Tx) : (stepR out p).length ≤ out.length + 1 := by
  unfold stepR insP
  split
  · omega
  · simp only [List.length_append, List.length_cons, List.length_take, List.length_drop]
    omega
theorem platsR_len (l : List Ev) : ∀ k, (platsR (l.take k)).length ≤ k
  | 0 => by simp [platsR]
  | k + 1 => by
    rcases Nat.lt_or_ge k l.length with h | h
    · rw [platsR_step (List.getElem?_eq_getElem h)]
      have := stepR_len (platsR (l.take k)) (l[k]).p.data.toList
      have := platsR_len l k
      omega
    · have e : l.take (k + 1) = l.take k := by rw [List.take_of_length_le (by omega), List.take_of_length_le h]
      rw [e]
      have := platsR_len l k
      omega

end Go.Proofs.Ytgjjjnofdjhikaa
