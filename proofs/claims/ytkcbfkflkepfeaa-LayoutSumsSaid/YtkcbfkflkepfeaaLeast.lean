/- The arithmetic of least codes: an entry of the table is the code of some part on top of an earlier entry, and of none a smaller one. No program is named here. -/
import Derived.Test.YtkcbfkflkepfeaaSys
namespace Go.Proofs.Ytkcbfkflkepfeaa
open Go.RowKit

theorem pick_or (b c : Int) : pick b c = b ∨ (pick b c = c ∧ c ≠ -1) := by unfold pick; split <;> omega
theorem pick_min {b c : Int} : (b ≠ -1 → pick b c ≠ -1 ∧ pick b c ≤ b) ∧ (c ≠ -1 → pick b c ≠ -1 ∧ pick b c ≤ c) := by
  unfold pick
  refine ⟨fun h => ?_, fun h => ?_⟩ <;> split <;> omega
/-- What the fold finds. -/
theorem fold_pick_or {T : List Int} {k : Nat} : ∀ (ps : List Part) (b : Int), ps.foldl (fun b p => pick b (codeAt T p k)) b = b ∨ ∃ p ∈ ps, codeAt T p k ≠ -1 ∧ ps.foldl (fun b p => pick b (codeAt T p k)) b = codeAt T p k
  | [], b => .inl rfl
  | p :: ps, b => by
    rcases fold_pick_or ps (pick b (codeAt T p k)) with h | ⟨q, hq, h1, h2⟩
    · rcases pick_or b (codeAt T p k) with h3 | ⟨h3, h4⟩
      · exact .inl (by rw [List.foldl_cons, h, h3])
      · exact .inr ⟨p, by simp, h4, by rw [List.foldl_cons, h, h3]⟩
    · exact .inr ⟨q, by simp [hq], h1, by rw [List.foldl_cons]; exact h2⟩
theorem codeAt_ge {T : List Int} (hT : ∀ x ∈ T, -1 ≤ x) {p : Part} (hp : p.Fine) (k : Nat) : -1 ≤ codeAt T p k := by
  unfold codeAt
  split
  · omega
  · split
    · omega
    · rename_i h
      have h0 : -1 ≤ T.getD (k - p.units.toNat) 0 := by
        rw [List.getD_eq_getElem?_getD]
        rcases hi : T[k - p.units.toNat]? with _ | x
        · simp
        · exact hT x (List.mem_of_getElem? hi)
      have := hp.2.1
      omega
theorem fold_pick_min {T : List Int} (hT : ∀ x ∈ T, -1 ≤ x) {k : Nat} : ∀ (ps : List Part) (b : Int), (∀ p ∈ ps, p.Fine) → -1 ≤ b →
    -1 ≤ ps.foldl (fun b p => pick b (codeAt T p k)) b ∧ (b ≠ -1 → ps.foldl (fun b p => pick b (codeAt T p k)) b ≠ -1 ∧ ps.foldl (fun b p => pick b (codeAt T p k)) b ≤ b) ∧
    ∀ p ∈ ps, codeAt T p k ≠ -1 → ps.foldl (fun b p => pick b (codeAt T p k)) b ≠ -1 ∧ ps.foldl (fun b p => pick b (codeAt T p k)) b ≤ codeAt T p k
  | [], b, _, hb => ⟨hb, fun h => ⟨h, Int.le_refl _⟩, by simp⟩
  | p :: ps, b, hf, hb => by
    have hc := codeAt_ge hT (hf p (by simp)) k
    have hpb : -1 ≤ pick b (codeAt T p k) := by rcases pick_or b (codeAt T p k) with h | ⟨h, -⟩ <;> omega
    obtain ⟨h1, h2, h3⟩ := fold_pick_min hT ps (pick b (codeAt T p k)) (fun q hq => hf q (by simp [hq])) hpb
    obtain ⟨m1, m2⟩ := pick_min (b := b) (c := codeAt T p k)
    refine ⟨h1, fun h => ?_, fun q hq hne => ?_⟩
    · obtain ⟨a1, a2⟩ := m1 h
      obtain ⟨b1, b2⟩ := h2 a1
      exact ⟨b1, by rw [List.foldl_cons]; omega⟩
    · rcases List.mem_cons.1 hq with rfl | hq
      · obtain ⟨a1, a2⟩ := m2 hne
        obtain ⟨b1, b2⟩ := h2 a1
        exact ⟨b1, by rw [List.foldl_cons]; omega⟩
      · exact h3 q hq hne

/-- The table up to k is the start of every longer one. -/
theorem tab_get {ps : List Part} {N k : Nat} (h : k ≤ N) : (tab ps N).getD k 0 = (tab ps k).getD k 0 := by
  induction N with
  | zero =>
    obtain rfl : k = 0 := by omega
    rfl
  | succ N ih =>
    rcases Nat.lt_or_ge k (N + 1) with hk | hk
    · rw [← ih (by omega)]
      simp only [tab, List.getD_eq_getElem?_getD]
      rw [List.getElem?_append_left (by rw [tab_length]; omega)]
    · obtain rfl : k = N + 1 := by omega
      rfl
theorem tab_last (ps : List Part) (k : Nat) : (tab ps (k + 1)).getD (k + 1) 0 = bestOf ps (tab ps k) (k + 1) := by
  simp only [tab, List.getD_eq_getElem?_getD]
  rw [List.getElem?_append_right (by rw [tab_length]; omega), tab_length]
  simp
/-- Entry k of the table. -/
def tabK (ps : List Part) (k : Nat) : Int := (tab ps k).getD k 0
theorem tabK_zero (ps : List Part) : tabK ps 0 = 0 := rfl
theorem tab_ge {ps : List Part} (hf : ∀ p ∈ ps, p.Fine) (k : Nat) : ∀ x ∈ tab ps k, -1 ≤ x := fun x hx => (tab_codes hf k x hx).1
theorem codeAt_tab {ps : List Part} {p : Part} {k : Nat} (hp : p.Fine) : codeAt (tab ps k) p (k + 1) = if ((k + 1 : Nat) : Int) < p.units then -1 else if tabK ps (k + 1 - p.units.toNat) = -1 then -1 else tabK ps (k + 1 - p.units.toNat) + p.code := by
  unfold codeAt
  split
  · rfl
  · have := hp.1.1
    rw [tab_get (ps := ps) (show k + 1 - p.units.toNat ≤ k by omega)]
    rfl
/-- An entry that is a code stands on an earlier one. -/
theorem tabK_step {ps : List Part} {k : Nat} (hk : 1 ≤ k) (h : tabK ps k ≠ -1) (hf : ∀ p ∈ ps, p.Fine) : ∃ p ∈ ps, p.units ≤ k ∧ tabK ps (k - p.units.toNat) ≠ -1 ∧ tabK ps k = tabK ps (k - p.units.toNat) + p.code := by
  obtain ⟨j, rfl⟩ : ∃ j, k = j + 1 := ⟨k - 1, by omega⟩
  unfold tabK at h
  rw [tab_last] at h
  unfold bestOf at h
  rcases fold_pick_or ps (-1) (T := tab ps j) (k := j + 1) with h1 | ⟨p, hp, h1, h2⟩
  · exact absurd h1 h
  · have hc := codeAt_tab (ps := ps) (k := j) (hf p hp)
    rw [hc] at h1 h2
    split at h1
    · exact absurd rfl h1
    · rename_i h3
      rw [if_neg h3] at h2
      split at h1
      · exact absurd rfl h1
      · rename_i h4
        rw [if_neg h4] at h2
        refine ⟨p, hp, by omega, h4, ?_⟩
        rw [← h2]
        unfold tabK
        rw [tab_last]
        rfl
/-- No part on top of an earlier entry makes a smaller code. -/
theorem tabK_least {ps : List Part} {k : Nat} (hf : ∀ p ∈ ps, p.Fine) {p : Part} (hp : p ∈ ps) (hk : p.units ≤ k) (h : tabK ps (k - p.units.toNat) ≠ -1) : tabK ps k ≠ -1 ∧ tabK ps k ≤ tabK ps (k - p.units.toNat) + p.code := by
  have h1 := (hf p hp).1.1
  obtain ⟨j, rfl⟩ : ∃ j, k = j + 1 := ⟨k - 1, by omega⟩
  have hc := codeAt_tab (ps := ps) (k := j) (hf p hp)
  rw [if_neg (by omega), if_neg h] at hc
  have h0 : -1 ≤ tabK ps (j + 1 - p.units.toNat) := by
    unfold tabK
    rw [List.getD_eq_getElem?_getD]
    rcases hi : (tab ps (j + 1 - p.units.toNat))[j + 1 - p.units.toNat]? with _ | x
    · simp
    · exact tab_ge hf _ x (List.mem_of_getElem? hi)
  have hcode := (hf p hp).2.1
  obtain ⟨-, -, h3⟩ := fold_pick_min (tab_ge hf j) ps (-1) hf (by omega) (k := j + 1)
  have := h3 p hp (by rw [hc]; omega)
  rw [hc] at this
  have e : tabK ps (j + 1) = bestOf ps (tab ps j) (j + 1) := by unfold tabK; rw [tab_last]
  rw [e]
  exact this
/-- The code of a list of parts of so many units is no less than the entry. -/
theorem tabK_list {ps : List Part} (hf : ∀ p ∈ ps, p.Fine) : ∀ (l : List Part), (∀ p ∈ l, p ∈ ps) → tabK ps ((l.map fun p => p.units.toNat).sum) ≠ -1 ∧ tabK ps ((l.map fun p => p.units.toNat).sum) ≤ (l.map fun p => p.code).sum
  | [], _ => by simp [tabK_zero]
  | p :: l, h => by
    have hp := h p (by simp)
    obtain ⟨h1, h2⟩ := tabK_list hf l (fun q hq => h q (by simp [hq]))
    have h3 := (hf p hp).1.1
    simp only [List.map_cons, List.sum_cons]
    have he : p.units.toNat + (l.map fun p => p.units.toNat).sum - p.units.toNat = (l.map fun p => p.units.toNat).sum := by omega
    have := tabK_least hf hp (k := p.units.toNat + (l.map fun p => p.units.toNat).sum) (by omega) (by rw [he]; exact h1)
    rw [he] at this
    omega

end Go.Proofs.Ytkcbfkflkepfeaa
