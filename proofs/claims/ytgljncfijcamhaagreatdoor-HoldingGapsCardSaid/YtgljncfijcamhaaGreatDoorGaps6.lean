/- Chapter 6: held levels and gaps: when all demands have a tie. -/
import Derived.Test.YtgljncfijcamhaaGreatDoorHeld6
import Derived.Test.YtgljncfijcamhaaGreatDoorFewB6
namespace Go.Proofs.YtgljncfijcamhaaGreatDoor
open Go.RowKit

def heldB (sk i k : Int) (t : Int × Int) : Bool := decide (t.2 = k) && decide (i - sk ≤ t.1 ∧ t.1 ≤ i + sk)
def heldK (l : List (Int × Int)) (sk : Int) (i k : Nat) : Bool := l.any (heldB sk i k)
def lastTo (l : List (Int × Int)) (lv : List Int) (sk : Int) (i : Nat) : Nat → Int
  | 0 => 0
  | k + 1 => if heldK l sk i k then lv.getD k 0 else lastTo l lv sk i k
def rightTo (l : List (Int × Int)) (lv : List Int) (sk ev fr top : Int) (i : Nat) (r : Bool) : Nat → Bool
  | 0 => r
  | k + 1 => if heldK l sk i k then rightTo l lv sk ev fr top i r k && (decide (lv.getD k 0 - lastTo l lv sk i k ≤ ev) || decide (top - lastTo l lv sk i k ≤ fr)) else rightTo l lv sk ev fr top i r k
def rightAll (l : List (Int × Int)) (lv : List Int) (sk ev fr top : Int) (m : Nat) : Nat → Bool
  | 0 => true
  | i + 1 => rightTo l lv sk ev fr top i (rightAll l lv sk ev fr top m i) m && decide (top - lastTo l lv sk i m ≤ fr)
section
variable {l : List (Int × Int)} {lv : List Int} {sk ev fr top : Int} {i m : Nat}
theorem rightTo_and {r : Bool} : ∀ k, rightTo l lv sk ev fr top i r k = (r && rightTo l lv sk ev fr top i true k)
  | 0 => by simp [rightTo]
  | k + 1 => by
    simp only [rightTo]
    split
    · rw [rightTo_and k, Bool.and_assoc]
    · exact rightTo_and k
theorem rightTo_iff : ∀ {K : Nat}, rightTo l lv sk ev fr top i true K = true ↔ ∀ k, k < K → heldK l sk i k = true → lv.getD k 0 - lastTo l lv sk i k ≤ ev ∨ top - lastTo l lv sk i k ≤ fr
  | 0 => by simp [rightTo]
  | K + 1 => by
    simp only [rightTo]
    constructor
    · intro h k hk hh
      split at h
      · simp only [Bool.and_eq_true, Bool.or_eq_true, decide_eq_true_eq] at h
        rcases Nat.lt_or_ge k K with h1 | h1
        · exact rightTo_iff.1 h.1 k h1 hh
        · obtain rfl : k = K := by omega
          exact h.2
      · rename_i hn
        rcases Nat.lt_or_ge k K with h1 | h1
        · exact rightTo_iff.1 h k h1 hh
        · obtain rfl : k = K := by omega
          exact absurd hh hn
    · intro h
      have h1 := rightTo_iff.2 fun k hk hh => h k (Nat.lt_succ_of_lt hk) hh
      split
      · rename_i hh
        simp only [Bool.and_eq_true, Bool.or_eq_true, decide_eq_true_eq]
        exact ⟨h1, h K (Nat.lt_succ_self K) hh⟩
      · exact h1
theorem rightAll_iff : ∀ {n : Nat}, rightAll l lv sk ev fr top m n = true ↔ ∀ i, i < n → rightTo l lv sk ev fr top i true m = true ∧ top - lastTo l lv sk i m ≤ fr
  | 0 => by simp [rightAll]
  | n + 1 => by
    simp only [rightAll]
    rw [rightTo_and]
    simp only [Bool.and_eq_true, decide_eq_true_eq, rightAll_iff (n := n)]
    constructor
    · rintro ⟨⟨h1, h2⟩, h3⟩ i hi
      rcases Nat.lt_or_ge i n with h | h
      · exact h1 i h
      · obtain rfl : i = n := by omega
        exact ⟨h2, h3⟩
    · intro h
      exact ⟨⟨fun i hi => h i (Nat.lt_succ_of_lt hi), (h n (Nat.lt_succ_self n)).1⟩, (h n (Nat.lt_succ_self n)).2⟩
/-- The last held level, or the ground. -/
theorem lastTo_is (hpos : ∀ k, k < m → 1 ≤ lv.getD k 0) (hmono : ∀ j k, j < k → k < m → lv.getD j 0 < lv.getD k 0) : ∀ {K : Nat}, K ≤ m → (lastTo l lv sk i K = 0 ∨ ∃ j, j < K ∧ lastTo l lv sk i K = lv.getD j 0) ∧ 0 ≤ lastTo l lv sk i K ∧ (∀ j, j < K → heldK l sk i j = true → lv.getD j 0 ≤ lastTo l lv sk i K) ∧ ∀ h : Int, 0 ≤ h → (∀ j, j < K → heldK l sk i j = true → lv.getD j 0 ≤ h) → lastTo l lv sk i K ≤ h
  | 0, _ => ⟨.inl rfl, Int.le_refl _, fun j hj => absurd hj (Nat.not_lt_zero j), fun h h0 _ => h0⟩
  | K + 1, hK => by
    obtain ⟨h1, h2, h3, h4⟩ := lastTo_is hpos hmono (K := K) (by omega)
    simp only [lastTo]
    split
    · rename_i hh
      have hp := hpos K (by omega)
      refine ⟨.inr ⟨K, Nat.lt_succ_self K, rfl⟩, by omega, fun j hj hj2 => ?_, fun h h0 hall => hall K (Nat.lt_succ_self K) hh⟩
      rcases Nat.lt_or_ge j K with h | h
      · have := hmono j K h (by omega); omega
      · obtain rfl : j = K := by omega
        exact Int.le_refl _
    · rename_i hn
      refine ⟨?_, h2, fun j hj hj2 => ?_, fun h h0 hall => h4 h h0 fun j hj hj2 => hall j (Nat.lt_succ_of_lt hj) hj2⟩
      · rcases h1 with h1 | ⟨j, hj, e⟩
        · exact .inl h1
        · exact .inr ⟨j, Nat.lt_succ_of_lt hj, e⟩
      · rcases Nat.lt_or_ge j K with h | h
        · exact h3 j h hj2
        · obtain rfl : j = K := by omega
          exact absurd hj2 hn
theorem ansTo_some {h : Int} : ∀ {k : Nat}, k ≤ l.length → (ansTo lv ev sk i h l k ≠ [] ↔ ∃ t ∈ l.take k, ansIn lv ev sk i h t = true)
  | 0, _ => by simp [ansTo]
  | k + 1, hk => by
    have hx : l[k]? = some l[k] := List.getElem?_eq_getElem (by omega)
    have ih := ansTo_some (h := h) (k := k) (by omega)
    rw [List.take_succ_eq_append_getElem (by omega)]
    simp only [ansTo, getDp_of hx, List.mem_append, List.mem_singleton]
    constructor
    · intro hne
      split at hne
      · rename_i hy
        exact ⟨l[k], .inr rfl, hy⟩
      · obtain ⟨t, h1, h2⟩ := ih.1 hne
        exact ⟨t, .inl h1, h2⟩
    · rintro ⟨t, h1 | rfl, h2⟩
      · split
        · simp
        · exact ih.2 ⟨t, h1, h2⟩
      · rw [if_pos h2]; simp
theorem ans_held {h : Int} (hin : ∀ t ∈ l, ∃ x k : Nat, t = ((x : Int), (k : Int)) ∧ k < m) : (∃ t ∈ l, ansIn lv ev sk i h t = true) ↔ ∃ k, k < m ∧ heldK l sk i k = true ∧ h < lv.getD k 0 ∧ lv.getD k 0 - h ≤ ev := by
  constructor
  · rintro ⟨t, ht, ha⟩
    obtain ⟨x, k, rfl, hk⟩ := hin t ht
    simp only [ansIn, Int.toNat_natCast, Bool.and_eq_true, decide_eq_true_eq] at ha
    obtain ⟨a1, a2, a3⟩ := ha
    refine ⟨k, hk, ?_, by omega, a2⟩
    unfold heldK
    rw [List.any_eq_true]
    refine ⟨_, ht, ?_⟩
    unfold absD at a3
    simp only [heldB, Bool.and_eq_true, decide_eq_true_eq]
    refine ⟨trivial, ?_, ?_⟩ <;> omega
  · rintro ⟨k, hk, hh, h1, h2⟩
    unfold heldK at hh
    rw [List.any_eq_true] at hh
    obtain ⟨t, ht, hb⟩ := hh
    simp only [heldB, Bool.and_eq_true, decide_eq_true_eq] at hb
    obtain ⟨b1, b2⟩ := hb
    refine ⟨t, ht, ?_⟩
    simp only [ansIn, b1, Int.toNat_natCast, Bool.and_eq_true, decide_eq_true_eq]
    refine ⟨by omega, h2, ?_⟩
    unfold absD
    omega
/-- One standard: each height that wants a tie has one just if there is no gap. -/
theorem row_iff (hm : lv.length = m) (hpos : ∀ k, k < m → 1 ≤ lv.getD k 0) (hmono : ∀ j k, j < k → k < m → lv.getD j 0 < lv.getD k 0) :
    (∀ h ∈ wantTo (0 :: lv) top fr (m + 1), ∃ k, k < m ∧ heldK l sk i k = true ∧ h < lv.getD k 0 ∧ lv.getD k 0 - h ≤ ev) ↔ rightTo l lv sk ev fr top i true m = true ∧ top - lastTo l lv sk i m ≤ fr := by
  have hle : ∀ j k, j ≤ k → k < m → lv.getD j 0 ≤ lv.getD k 0 := fun j k hjk hk => by
    rcases Nat.lt_or_ge j k with h | h
    · have := hmono j k h hk; omega
    · obtain rfl : j = k := by omega
      exact Int.le_refl _
  have hmem : ∀ K, K ≤ m → fr < top - lastTo l lv sk i K → lastTo l lv sk i K ∈ wantTo (0 :: lv) top fr (m + 1) := fun K hK hfr => by
    rw [wantTo_mem]
    refine ⟨?_, hfr⟩
    rcases (lastTo_is (l := l) (sk := sk) (i := i) hpos hmono hK).1 with e | ⟨j, hj, e⟩
    · exact ⟨0, by omega, by rw [e]; rfl⟩
    · exact ⟨j + 1, by omega, by rw [e]; rfl⟩
  constructor
  · intro hall
    refine ⟨rightTo_iff.2 fun k hk hh => ?_, ?_⟩
    · rcases Int.lt_or_le fr (top - lastTo l lv sk i k) with h1 | h1
      · obtain ⟨k', hk', hh', h2, h3⟩ := hall _ (hmem k (by omega) h1)
        left
        have hkk : k ≤ k' := by
          rcases Nat.lt_or_ge k' k with h | h
          · have := (lastTo_is (l := l) (sk := sk) (i := i) hpos hmono (K := k) (by omega)).2.2.1 k' h hh'
            omega
          · exact h
        have := hle k k' hkk hk'
        omega
      · exact .inr h1
    · rcases Int.lt_or_le fr (top - lastTo l lv sk i m) with h1 | h1
      · obtain ⟨k', hk', hh', h2, h3⟩ := hall _ (hmem m (Nat.le_refl _) h1)
        have := (lastTo_is (l := l) (sk := sk) (i := i) hpos hmono (K := m) (Nat.le_refl _)).2.2.1 k' hk' hh'
        omega
      · exact h1
  · rintro ⟨hr, hf⟩ h hh
    obtain ⟨⟨j, hj, e⟩, hfr⟩ := wantTo_mem.1 hh
    have h0 : 0 ≤ h := by
      match j, e with
      | 0, e => simp at e; omega
      | j + 1, e =>
        have := hpos j (by omega)
        simp at e this
        omega
    have key : ∀ K, K ≤ m → (∃ k, k < K ∧ heldK l sk i k = true ∧ h < lv.getD k 0) → ∃ k, k < K ∧ heldK l sk i k = true ∧ h < lv.getD k 0 ∧ ∀ j, j < k → heldK l sk i j = true → lv.getD j 0 ≤ h := by
      intro K
      induction K with
      | zero => rintro _ ⟨k, hk, _⟩; omega
      | succ K ih =>
        intro hK hex
        by_cases hex' : ∃ k, k < K ∧ heldK l sk i k = true ∧ h < lv.getD k 0
        · obtain ⟨k, hk, rest⟩ := ih (by omega) hex'
          exact ⟨k, by omega, rest⟩
        · obtain ⟨k, hk, h1, h2⟩ := hex
          have : k = K := by
            rcases Nat.lt_or_ge k K with h3 | h3
            · exact absurd ⟨k, h3, h1, h2⟩ hex'
            · omega
          subst this
          refine ⟨k, Nat.lt_succ_self k, h1, h2, fun j hj hhj => ?_⟩
          rcases Int.lt_or_le h (lv.getD j 0) with h4 | h4
          · exact absurd ⟨j, hj, hhj, h4⟩ hex'
          · exact h4
    have hex : ∃ k, k < m ∧ heldK l sk i k = true ∧ h < lv.getD k 0 := by
      apply Classical.byContradiction
      intro hno
      have := (lastTo_is (l := l) (sk := sk) (i := i) hpos hmono (K := m) (Nat.le_refl _)).2.2.2 h h0 fun j hj hhj => by
        rcases Int.lt_or_le h (lv.getD j 0) with h4 | h4
        · exact absurd ⟨j, hj, hhj, h4⟩ hno
        · exact h4
      omega
    obtain ⟨k, hk, h1, h2, h3⟩ := key m (Nat.le_refl _) hex
    refine ⟨k, hk, h1, h2, ?_⟩
    have hl := (lastTo_is (l := l) (sk := sk) (i := i) hpos hmono (K := k) (by omega)).2.2.2 h h0 h3
    rcases rightTo_iff.1 hr k hk h1 with h4 | h4
    · omega
    · omega
/-- All standards. -/
theorem gaps_eq {n k0 : Nat} (hm : lv.length = m) (hk0 : l.length = k0) (hpos : ∀ k, k < m → 1 ≤ lv.getD k 0) (hmono : ∀ j k, j < k → k < m → lv.getD j 0 < lv.getD k 0) (hin : ∀ t ∈ l, ∃ x k : Nat, t = ((x : Int), (k : Int)) ∧ k < m) :
    (noPl (demAll lv (wants lv fr) ev sk l k0 n)).isNone = rightAll l lv sk ev fr (topOf lv) m n := by
  have h1 : (noPl (demAll lv (wants lv fr) ev sk l k0 n)).isNone = true ↔ ∀ i, i < n → ∀ h ∈ wants lv fr, ansTo lv ev sk i h l k0 ≠ [] := by
    unfold noPl
    rw [Option.isNone_iff_eq_none, List.find?_eq_none]
    constructor
    · intro hall i hi h hh he
      have := hall ⟨i, h, ansTo lv ev sk i h l k0⟩ (demAll_mem.2 ⟨i, h, hi, hh, rfl⟩)
      simp [he] at this
    · intro hall d hd
      obtain ⟨i, h, hi, hh, rfl⟩ := demAll_mem.1 hd
      have := hall i hi h hh
      simpa using this
  have h2 : (noPl (demAll lv (wants lv fr) ev sk l k0 n)).isNone = true ↔ rightAll l lv sk ev fr (topOf lv) m n = true := by
    rw [h1, rightAll_iff]
    refine forall_congr' fun i => imp_congr_right fun hi => ?_
    rw [← row_iff hm hpos hmono]
    unfold wants
    rw [hm]
    refine forall_congr' fun h => imp_congr_right fun hh => ?_
    rw [← hk0, ansTo_some (Nat.le_refl _), List.take_length, ans_held hin]
  cases ha : (noPl (demAll lv (wants lv fr) ev sk l k0 n)).isNone <;> cases hb : rightAll l lv sk ev fr (topOf lv) m n <;> simp_all
end

end Go.Proofs.YtgljncfijcamhaaGreatDoor
