/- The arithmetic of sums and of the numbers of ways: what can be closed is closed in sum; there is a way just where there is a code. No program is named here. -/
import Derived.Test.YtkcbfkflkepfeaaBuilt
namespace Go.Proofs.Ytkcbfkflkepfeaa
open Go.RowKit

/-- What can be closed is closed in sum, at no greater code. -/
theorem tabK_sum {ps : List Part} (hf : ∀ p ∈ ps, p.Fine) (b : Nat) (hb : tabK ps b ≠ -1) : ∀ (m a : Nat), a ≤ m → tabK ps a ≠ -1 → tabK ps (a + b) ≠ -1 ∧ tabK ps (a + b) ≤ tabK ps a + tabK ps b
  | _, 0, _, _ => by rw [Nat.zero_add, tabK_zero]; exact ⟨hb, by omega⟩
  | 0, a + 1, hm, _ => absurd hm (by omega)
  | m + 1, a + 1, hm, ha => by
    obtain ⟨p, hp, h1, h2, h3⟩ := tabK_step (by omega) ha hf
    have hu := (hf p hp).1.1
    obtain ⟨i1, i2⟩ := tabK_sum hf b hb m (a + 1 - p.units.toNat) (by omega) h2
    have e : a + 1 + b - p.units.toNat = a + 1 - p.units.toNat + b := by omega
    have := tabK_least hf hp (k := a + 1 + b) (by omega) (by rw [e]; exact i1)
    rw [e] at this
    exact ⟨this.1, by omega⟩

theorem getD_set (c : List Int) (i k : Nat) (x : Int) (hi : i < c.length) : (c.set i x).getD k 0 = if k = i then x else c.getD k 0 := by
  simp only [List.getD_eq_getElem?_getD, List.getElem?_set]
  by_cases h : i = k
  · subst h
    simp [hi]
  · rw [if_neg h, if_neg (fun e => h e.symm)]
theorem wayTo_keep (c : List Int) (u : Nat) : ∀ (j i : Nat), u + j ≤ c.length → u + j ≤ i → (wayTo c u j).getD i 0 = c.getD i 0
  | 0, _, _, _ => rfl
  | j + 1, i, hj, hi => by
    simp only [wayTo, wayStep]
    rw [getD_set _ _ _ _ (by rw [wayTo_length]; omega), if_neg (by omega), wayTo_keep c u j i (by omega) (by omega)]
theorem wayTo_stay (c : List Int) (u : Nat) (j i : Nat) (hi : i < u + j) : ∀ d, u + (j + d) ≤ c.length → (wayTo c u (j + d)).getD i 0 = (wayTo c u j).getD i 0
  | 0, _ => rfl
  | d + 1, h => by
    rw [← Nat.add_assoc]
    simp only [wayTo, wayStep]
    rw [getD_set _ _ _ _ (by rw [wayTo_length]; omega), if_neg (by omega), wayTo_stay c u j i hi d (by omega)]
theorem wayPart_low (c : List Int) (u k : Nat) (hu : u ≤ c.length) (hk : k < u) : (wayPart c u).getD k 0 = c.getD k 0 := by
  have := wayTo_stay c u 0 k (by omega) (c.length - u) (by omega)
  rw [Nat.zero_add] at this
  exact this
theorem wayPart_none (c : List Int) (u : Nat) (hu : c.length ≤ u) : wayPart c u = c := by
  unfold wayPart
  rw [Nat.sub_eq_zero_of_le hu]
  rfl
theorem wayPart_step (c : List Int) (u j : Nat) (hu : 1 ≤ u) (hj : u + j < c.length) : (wayPart c u).getD (u + j) 0 = min (c.getD (u + j) 0 + (wayPart c u).getD j 0) 1000001 := by
  have h1 := wayTo_stay c u (j + 1) (u + j) (by omega) (c.length - u - (j + 1)) (by omega)
  have h2 := wayTo_stay c u j j (by omega) (c.length - u - j) (by omega)
  rw [show j + 1 + (c.length - u - (j + 1)) = c.length - u by omega] at h1
  rw [show j + (c.length - u - j) = c.length - u by omega] at h2
  unfold wayPart
  rw [h1, h2]
  simp only [wayTo, wayStep]
  rw [getD_set _ _ _ _ (by rw [wayTo_length]; omega), if_pos rfl, wayTo_keep c u j (u + j) (by omega) (by omega), Nat.add_sub_cancel_left]

theorem min_ne {a b : Int} (ha : 0 ≤ a) (hb : 0 ≤ b) : min (a + b) 1000001 ≠ 0 ↔ a ≠ 0 ∨ b ≠ 0 := by omega
/-- A part adds what lies some of it further on. -/
theorem wayPart_iff (c : List Int) (hc : Cnt c) (u : Nat) (hu : 1 ≤ u) : ∀ (m k : Nat), k ≤ m → k < c.length → ((wayPart c u).getD k 0 ≠ 0 ↔ ∃ j, j * u ≤ k ∧ c.getD (k - j * u) 0 ≠ 0) := by
  intro m
  induction m with
  | zero =>
    intro k hk hl
    obtain rfl : k = 0 := by omega
    have e : (wayPart c u).getD 0 0 = c.getD 0 0 := by
      rcases Nat.lt_or_ge u c.length with h | h
      · exact wayPart_low c u 0 (by omega) (by omega)
      · rw [wayPart_none c u h]
    rw [e]
    refine ⟨fun h => ⟨0, by simp, by simpa using h⟩, fun ⟨j, h1, h2⟩ => ?_⟩
    simpa using h2
  | succ m ih =>
    intro k hk hl
    rcases Nat.lt_or_ge k u with hku | hku
    · have e : (wayPart c u).getD k 0 = c.getD k 0 := by
        rcases Nat.lt_or_ge u c.length with h | h
        · exact wayPart_low c u k (by omega) hku
        · rw [wayPart_none c u h]
      rw [e]
      refine ⟨fun h => ⟨0, by simp, by simpa using h⟩, fun ⟨j, h1, h2⟩ => ?_⟩
      rcases Nat.eq_zero_or_pos j with hj | hj
      · subst hj; simpa using h2
      · have := Nat.mul_le_mul_right u hj
        omega
    · obtain ⟨i, rfl⟩ : ∃ i, k = u + i := ⟨k - u, by omega⟩
      have hp : 0 ≤ (wayPart c u).getD i 0 := ((hc.to u _).at_ i).1
      rw [wayPart_step c u i hu hl, min_ne (hc.at_ _).1 hp, ih i (by omega) (by omega)]
      constructor
      · rintro (h | ⟨j, h1, h2⟩)
        · exact ⟨0, by simp, by simpa using h⟩
        · refine ⟨j + 1, by rw [Nat.succ_mul]; omega, ?_⟩
          rw [show u + i - (j + 1) * u = i - j * u by rw [Nat.succ_mul]; omega]
          exact h2
      · rintro ⟨j, h1, h2⟩
        rcases j with _ | j
        · exact .inl (by simpa using h2)
        · rw [Nat.succ_mul] at h1
          refine .inr ⟨j, by omega, ?_⟩
          rw [show u + i - (j + 1) * u = i - j * u by rw [Nat.succ_mul]; omega] at h2
          exact h2

/-- What is closed under the parts stays so. -/
theorem ways_in (Q : Nat → Prop) : ∀ (ps : List Part) (c : List Int), (∀ p ∈ ps, p.Fine) → Cnt c → (∀ p ∈ ps, ∀ k, Q k → Q (k + p.units.toNat)) → (∀ k, k < c.length → c.getD k 0 ≠ 0 → Q k) → ∀ k, k < c.length → (waysOf ps c).getD k 0 ≠ 0 → Q k
  | [], _, _, _, _, h => h
  | p :: ps, c, hf, hc, hq, h => by
    intro k hk hw
    have hu := (hf p (by simp)).1.1
    refine ways_in Q ps (wayPart c p.units.toNat) (fun q hq' => hf q (by simp [hq'])) (hc.to _ _) (fun q hq' => hq q (by simp [hq'])) ?_ k (by unfold wayPart; rw [wayTo_length]; exact hk) hw
    intro i hi hn
    have hi' : i < c.length := by unfold wayPart at hi; rwa [wayTo_length] at hi
    obtain ⟨j, h1, h2⟩ := (wayPart_iff c hc p.units.toNat (by omega) i i (Nat.le_refl _) hi').1 hn
    have h3 := h _ (by omega) h2
    have h4 : ∀ d, Q (i - j * p.units.toNat + d * p.units.toNat) := fun d => by
      induction d with
      | zero => simpa using h3
      | succ d ih => rw [Nat.succ_mul, ← Nat.add_assoc]; exact hq p (by simp) _ ih
    have := h4 j
    rwa [show i - j * p.units.toNat + j * p.units.toNat = i by omega] at this

def Shut (c : List Int) (u : Nat) : Prop := ∀ k, k + u < c.length → c.getD k 0 ≠ 0 → c.getD (k + u) 0 ≠ 0
theorem Shut.part {c : List Int} (hc : Cnt c) {u v : Nat} (h : Shut c v) (hu : 1 ≤ u) : Shut (wayPart c u) v := by
  intro k hk hn
  have hl : k + v < c.length := by unfold wayPart at hk; rwa [wayTo_length] at hk
  obtain ⟨j, h1, h2⟩ := (wayPart_iff c hc u hu k k (Nat.le_refl _) (by omega)).1 hn
  have h3 := h (k - j * u) (by omega) h2
  refine (wayPart_iff c hc u hu (k + v) (k + v) (Nat.le_refl _) hl).2 ⟨j, by omega, ?_⟩
  rwa [show k + v - j * u = k - j * u + v by omega]
theorem Shut.own {c : List Int} (hc : Cnt c) {u : Nat} (hu : 1 ≤ u) : Shut (wayPart c u) u := by
  intro k hk hn
  have hl : k + u < c.length := by unfold wayPart at hk; rwa [wayTo_length] at hk
  obtain ⟨j, h1, h2⟩ := (wayPart_iff c hc u hu k k (Nat.le_refl _) (by omega)).1 hn
  refine (wayPart_iff c hc u hu (k + u) (k + u) (Nat.le_refl _) hl).2 ⟨j + 1, by rw [Nat.succ_mul]; omega, ?_⟩
  rwa [show k + u - (j + 1) * u = k - j * u by rw [Nat.succ_mul]; omega]
theorem Shut.all : ∀ (ps : List Part) {c : List Int} {v : Nat}, (∀ p ∈ ps, p.Fine) → Cnt c → Shut c v → Shut (waysOf ps c) v
  | [], _, _, _, _, h => h
  | p :: ps, c, v, hf, hc, h => by
    have hu := (hf p (by simp)).1.1
    exact Shut.all ps (fun q hq => hf q (by simp [hq])) (hc.to p.units.toNat _) (h.part hc (by omega))
theorem Shut.ways : ∀ (ps : List Part) {c : List Int}, (∀ p ∈ ps, p.Fine) → Cnt c → ∀ p ∈ ps, Shut (waysOf ps c) p.units.toNat
  | [], _, _, _, _, h => by simp at h
  | q :: ps, c, hf, hc, p, h => by
    have hu := (hf q (by simp)).1.1
    rcases List.mem_cons.1 h with rfl | h
    · exact Shut.all ps (fun q hq => hf q (by simp [hq])) (hc.to p.units.toNat _) (Shut.own hc (by omega))
    · exact Shut.ways ps (c := wayPart c q.units.toNat) (fun q hq => hf q (by simp [hq])) (hc.to q.units.toNat _) p h
theorem ways_first : ∀ (ps : List Part) {c : List Int}, (∀ p ∈ ps, p.Fine) → Cnt c → 0 < c.length → c.getD 0 0 ≠ 0 → (waysOf ps c).getD 0 0 ≠ 0
  | [], _, _, _, _, h => h
  | p :: ps, c, hf, hc, hl, h => by
    have hu := (hf p (by simp)).1.1
    refine ways_first ps (c := wayPart c p.units.toNat) (fun q hq => hf q (by simp [hq])) (hc.to p.units.toNat _) (by unfold wayPart; rw [wayTo_length]; exact hl) ?_
    exact (wayPart_iff c hc p.units.toNat (by omega) 0 0 (Nat.le_refl _) hl).2 ⟨0, by simp, by simpa using h⟩

/-- There is a way just where there is a code. -/
theorem waysN_iff {ps : List Part} (hf : ∀ p ∈ ps, p.Fine) (N : Nat) : waysN ps N = 0 ↔ tabK ps N = -1 := by
  have hl : (ways0 N).length = N + 1 := by simp [ways0]
  have hl2 : (waysOf ps (ways0 N)).length = N + 1 := by rw [waysOf_length, hl]
  constructor
  · intro h
    rcases Classical.em (tabK ps N = -1) with h1 | h1
    · exact h1
    · exfalso
      have hs := Shut.ways ps hf (Cnt.zero N)
      have key : ∀ m k, k ≤ m → k ≤ N → tabK ps k ≠ -1 → (waysOf ps (ways0 N)).getD k 0 ≠ 0 := by
        intro m
        induction m with
        | zero =>
          intro k hk _ _
          obtain rfl : k = 0 := by omega
          exact ways_first ps hf (Cnt.zero N) (by omega) (by simp [ways0])
        | succ m ih =>
          intro k hk hkN ht
          rcases Nat.eq_zero_or_pos k with h0 | h0
          · subst h0
            exact ways_first ps hf (Cnt.zero N) (by omega) (by simp [ways0])
          · obtain ⟨p, hp, h2, h3, -⟩ := tabK_step h0 ht hf
            have hu := (hf p hp).1.1
            have h4 := ih (k - p.units.toNat) (by omega) (by omega) h3
            have := hs p hp (k - p.units.toNat) (by rw [hl2]; omega) h4
            rwa [show k - p.units.toNat + p.units.toNat = k by omega] at this
      exact key N N (Nat.le_refl _) (Nat.le_refl _) h1 h
  · intro h
    rcases Classical.em (waysN ps N = 0) with h1 | h1
    · exact h1
    · exfalso
      refine ways_in (fun k => tabK ps k ≠ -1) ps (ways0 N) hf (Cnt.zero N) ?_ ?_ N (by omega) h1 h
      · intro p hp k hk
        have hu := (hf p hp).1.1
        exact (tabK_least hf hp (k := k + p.units.toNat) (by omega) (by rwa [Nat.add_sub_cancel])).1
      · intro k hk hn
        rcases Nat.eq_zero_or_pos k with h0 | h0
        · subst h0; simp [tabK_zero]
        · exfalso
          apply hn
          obtain ⟨j, rfl⟩ : ∃ j, k = j + 1 := ⟨k - 1, by omega⟩
          have hj : j < N := by rw [hl] at hk; omega
          simp [ways0, List.getD_eq_getElem?_getD, hj]

end Go.Proofs.Ytkcbfkflkepfeaa
