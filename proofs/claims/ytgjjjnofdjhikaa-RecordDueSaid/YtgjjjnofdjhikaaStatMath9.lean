/- Chapter 9: what the program's status tells and what the reference's last places tell: the same. No walk. -/
import Derived.Test.YtgjjjnofdjhikaaStatG9
import Derived.Test.YtgjjjnofdjhikaaRefD9
namespace Go.Proofs.Ytgjjjnofdjhikaa
open Go.RowKit Go.Maps

def ownP (p : ByteArray) (x : Ev) : Bool := eqS x.p p || decide (x.k = 3)
theorem own_two (l : List Ev) (p : ByteArray) (day : Int) : l.filter (ownE p day) = (l.filter (upF day)).filter (ownP p) := by
  rw [List.filter_filter]
  congr 1
  funext x
  show (decide (x.d ≤ day) && (eqS x.p p || decide (x.k = 3))) = ((eqS x.p p || decide (x.k = 3)) && decide (x.d ≤ day))
  rw [Bool.and_comm]
/-- The status of the first events. -/
def stT (U : List Ev) (p : ByteArray) (k : Nat) : St := stOf ((U.take k).filter (ownP p))
theorem stT_zero (U : List Ev) (p : ByteArray) : stT U p 0 = st0 := rfl
theorem stT_step {U : List Ev} {p : ByteArray} {k : Nat} {x : Ev} (hx : U[k]? = some x) : stT U p (k + 1) = if ownP p x then stF (stT U p k) x else stT U p k := by
  unfold stT
  rw [take_step hx, List.filter_append]
  by_cases h : ownP p x = true
  · simp [h, stOf]
  · simp [h, stOf]
theorem psAt_at {U : List Ev} {k : Nat} {x : Ev} (hx : U[k]? = some x) : psAt U (k : Int) = x.ps := by
  unfold psAt
  rw [Int.toNat_natCast, hx]
/-- What the status is, by the reference's places. -/
structure Tells (U : List Ev) (p : ByteArray) (k : Nat) (s : St) : Prop where
  hd : s.hd = decide (0 ≤ lastTo U 0 p k)
  de : s.de = (decide (0 ≤ lastTo U 0 p k) && decide (lastTo U 6 p k ≤ lastTo U 0 p k))
  ho : s.ho = (decide (0 ≤ lastTo U 0 p k) && (decide (lastTo U 0 p k ≤ lastTo U 1 p k) && psAt U (lastTo U 1 p k)))
  is : s.is = decide (0 ≤ frTo U p k)
  d : 0 ≤ frTo U p k → ∃ x, U[(frTo U p k).toNat]? = some x ∧ x.d = s.d
theorem isK_own {kd : Int} {p : ByteArray} {x : Ev} (h : ownP p x = false) : isK kd p x = false := by
  unfold ownP at h
  rw [Bool.or_eq_false_iff] at h
  simp [isK, h.1]
theorem frStep_not {p : ByteArray} {x : Ev} {k : Nat} {z : Int} (h : ownP p x = false) : frStep p k x z = z := by
  unfold ownP at h
  rw [Bool.or_eq_false_iff] at h
  simp [frStep, isI, h.1, h.2]
theorem tells (U : List Ev) (p : ByteArray) (h3 : ∀ x ∈ U, x.k = 3 → eqS x.p p = false) : ∀ k, k ≤ U.length → Tells U p k (stT U p k)
  | 0, _ => ⟨rfl, rfl, rfl, rfl, fun h => by simp [frTo] at h⟩
  | k + 1, hk => by
    obtain ⟨i1, i2, i3, i4, i5⟩ := tells U p h3 k (by omega)
    have hx : U[k]? = some (U[k]'(by omega)) := List.getElem?_eq_getElem (by omega)
    have hm : U[k]'(by omega) ∈ U := List.getElem_mem _
    generalize U[k]'(by omega) = x at hx hm
    have l0 := lastTo_lt U 0 p k
    have l1 := lastTo_lt U 1 p k
    have l6 := lastTo_lt U 6 p k
    have lf := frTo_lt U p k
    have hps := psAt_at hx
    rw [stT_step hx]
    have s0 := fun b hb => lastTo_step (kd := 0) (p := p) hx b hb
    have s1 := fun b hb => lastTo_step (kd := 1) (p := p) hx b hb
    have s6 := fun b hb => lastTo_step (kd := 6) (p := p) hx b hb
    have sf := frTo_step (p := p) hx
    by_cases ho : ownP p x = true
    · rw [if_pos ho]
      generalize stT U p k = s at *
      have hq : eqS x.p p = true ∨ x.k = 3 := by
        unfold ownP at ho
        simpa using ho
      by_cases k3 : x.k = 3
      · have hp := h3 x hm k3
        refine ⟨?_, ?_, ?_, ?_, ?_⟩ <;> (try rw [s0 false (by simp [isK, hp])]) <;> (try rw [s1 false (by simp [isK, hp])]) <;> (try rw [s6 false (by simp [isK, hp])]) <;> (try rw [sf]) <;> simp [stF, k3, frStep, isI, hp, i1, i2, i3]
      · have hp : eqS x.p p = true := hq.resolve_right k3
        by_cases k0 : x.k = 0
        · refine ⟨?_, ?_, ?_, ?_, ?_⟩
          · rw [s0 true (by simp [isK, hp, k0])]
            simp [stF, k0]
          · rw [s0 true (by simp [isK, hp, k0]), s6 false (by simp [isK, hp, k0])]
            have e : decide (lastTo U 6 p k ≤ (k : Int)) = true := decide_eq_true (by omega)
            simp [stF, k0, e]
          · rw [s0 true (by simp [isK, hp, k0]), s1 false (by simp [isK, hp, k0])]
            have e : decide ((k : Int) ≤ lastTo U 1 p k) = false := decide_eq_false (by omega)
            simp [stF, k0, e]
          · rw [sf]
            simp [stF, k0, frStep, isI, i4]
          · rw [sf]
            simpa [stF, k0, frStep, isI] using i5
        by_cases k1 : x.k = 1
        · refine ⟨?_, ?_, ?_, ?_, ?_⟩
          · rw [s0 false (by simp [isK, hp, k0])]
            simp [stF, k1, i1]
          · rw [s0 false (by simp [isK, hp, k0]), s6 false (by simp [isK, hp, k1])]
            simp [stF, k1, i2]
          · rw [s0 false (by simp [isK, hp, k0]), s1 true (by simp [isK, hp, k1])]
            have e : decide (lastTo U 0 p k ≤ (k : Int)) = true := decide_eq_true (by omega)
            simp [stF, k1, i1, e, hps]
          · rw [sf]
            cases hpv : x.ps <;> simp [stF, k1, frStep, isI, hp, hpv]
          · rw [sf]
            cases hpv : x.ps <;> simp [stF, k1, frStep, isI, hp, hpv, hx]
        by_cases k2 : x.k = 2
        · refine ⟨?_, ?_, ?_, ?_, ?_⟩
          · rw [s0 false (by simp [isK, hp, k0])]
            simp [stF, k2, i1]
          · rw [s0 false (by simp [isK, hp, k0]), s6 false (by simp [isK, hp, k2])]
            simp [stF, k2, i2]
          · rw [s0 false (by simp [isK, hp, k0]), s1 false (by simp [isK, hp, k1])]
            simp [stF, k2, i3]
          · rw [sf]
            cases hpv : x.ps <;> simp [stF, k2, frStep, isI, hp, hpv]
          · rw [sf]
            cases hpv : x.ps <;> simp [stF, k2, frStep, isI, hp, hpv, hx]
        have hfr : frStep p k x (frTo U p k) = frTo U p k := by simp [frStep, isI, k1, k2, k3]
        by_cases k6 : x.k = 6
        · refine ⟨?_, ?_, ?_, ?_, ?_⟩
          · rw [s0 false (by simp [isK, hp, k0])]
            simp [stF, k6, i1]
          · rw [s0 false (by simp [isK, hp, k0]), s6 true (by simp [isK, hp, k6])]
            have e : decide ((k : Int) ≤ lastTo U 0 p k) = false := decide_eq_false (by omega)
            simp [stF, k6, e]
          · rw [s0 false (by simp [isK, hp, k0]), s1 false (by simp [isK, hp, k1])]
            simp [stF, k6, i3]
          · rw [sf, hfr]
            simp [stF, k6, i4]
          · rw [sf, hfr]
            simpa [stF, k6] using i5
        · have e : stF s x = s := by simp [stF, k0, k1, k2, k3, k6]
          rw [e]
          refine ⟨?_, ?_, ?_, ?_, ?_⟩
          · rw [s0 false (by simp [isK, hp, k0]), i1]
            simp
          · rw [s0 false (by simp [isK, hp, k0]), s6 false (by simp [isK, hp, k6]), i2]
            simp
          · rw [s0 false (by simp [isK, hp, k0]), s1 false (by simp [isK, hp, k1]), i3]
            simp
          · rw [sf, hfr, i4]
          · rw [sf, hfr]
            exact i5
    · have ho : ownP p x = false := by simpa using ho
      rw [if_neg (by simp [ho])]
      have hfr := frStep_not (k := k) (z := frTo U p k) ho
      refine ⟨?_, ?_, ?_, ?_, ?_⟩
      · rw [s0 false (isK_own ho), i1]
        simp
      · rw [s0 false (isK_own ho), s6 false (isK_own ho), i2]
        simp
      · rw [s0 false (isK_own ho), s1 false (isK_own ho), i3]
        simp
      · rw [sf, hfr, i4]
      · rw [sf, hfr]
        exact i5

end Go.Proofs.Ytgjjjnofdjhikaa
