/- Chapter 9: the open defects of the program's map and those of the reference's list; a record up to a day is a record. No walk. -/
import Derived.Test.YtgjjjnofdjhikaaStatMath9
import Derived.Test.YtgjjjnofdjhikaaAgainst9
import Derived.Test.YtgjjjnofdjhikaaAdd9
namespace Go.Proofs.Ytgjjjnofdjhikaa
open Go.RowKit Go.Maps

theorem snoc_rev {P : List Ev → Prop} (h0 : P []) (h1 : ∀ U x, P U → P (U ++ [x])) : ∀ R : List Ev, P R.reverse
  | [] => h0
  | x :: r => by rw [List.reverse_cons]; exact h1 _ _ (snoc_rev h0 h1 r)
theorem snoc_ind {P : List Ev → Prop} (h0 : P []) (h1 : ∀ U x, P U → P (U ++ [x])) (U : List Ev) : P U := by
  have := snoc_rev h0 h1 U.reverse
  rwa [List.reverse_reverse] at this
theorem repIn_snoc (l : List Ev) (x : Ev) (p : ByteArray) (n : Int) : repIn (l ++ [x]) p n = (repIn l p n || isRe p n x) := by simp [repIn]
theorem olistG_snoc (g : Bool) (x : Ev) (p : ByteArray) : ∀ l : List Ev, olistG g (l ++ [x]) p = (olistG g l p).filter (fun n => !isRe p n x) ++ if isG g p x then [x.n] else []
  | [] => by
    simp only [List.nil_append, olistG]
    by_cases h : isG g p x = true <;> simp [h, repIn]
  | y :: r => by
    simp only [List.cons_append, olistG, repIn_snoc]
    rw [olistG_snoc g x p r]
    by_cases h : isG g p y = true
    · by_cases h1 : repIn r p y.n = true
      · simp [h, h1]
      · by_cases h2 : isRe p y.n x = true
        · simp [h, h1, h2]
        · simp [h, h1, h2]
    · simp [h]
theorem rGo_split : ∀ (a seen b : List Ev), rGo seen (a ++ b) = 0 → rGo seen a = 0 ∧ rGo (seen ++ a) b = 0
  | [], seen, b, h => ⟨rfl, by simpa using h⟩
  | y :: r, seen, b, h => by
    rw [List.cons_append, rGo] at h
    split at h
    · rename_i h0
      obtain ⟨h1, h2⟩ := rGo_split r (seen ++ [y]) b h
      refine ⟨by rw [rGo, if_pos h0]; exact h1, ?_⟩
      simpa using h2
    · contradiction
theorem rGo_snoc {a : List Ev} {x : Ev} (h : rGo [] (a ++ [x]) = 0) : rGo [] a = 0 ∧ eE a x = 0 := by
  obtain ⟨h1, h2⟩ := rGo_split a [] [x] h
  refine ⟨h1, ?_⟩
  rw [rGo, List.nil_append] at h2
  split at h2
  · assumption
  · contradiction
theorem eE_more {seen : List Ev} {x : Ev} (h : eE seen x = 0) : lastE seen ≤ x.d ∧ ((x.k = 4) → opn seen (x.p, x.n) = none) := by
  unfold eE eEr at h
  split at h
  · split at h
    · cases h
    · rename_i h4
      split at h
      · split at h
        · split at h
          · cases h
          · rename_i h7
            refine ⟨by simpa using h4, fun hk => ?_⟩
            simpa [hk] using h7
        · cases h
      · cases h
  · cases h
/-- In a record: what is told of a platform's defects, last. -/
theorem open_iff (p : ByteArray) : ∀ (U : List Ev), rGo [] U = 0 → ∀ n b, n ∈ olistG b U p ↔ opn U (p, n) = some b := by
  intro U
  refine snoc_ind (P := fun U => rGo [] U = 0 → ∀ n b, n ∈ olistG b U p ↔ opn U (p, n) = some b) ?_ ?_ U
  · intro _ n b; simp [olistG, opn]
  · intro U x ih h n b
    obtain ⟨h1, h2⟩ := rGo_snoc h
    obtain ⟨-, h4⟩ := eE_more h2
    have ih := ih h1
    rw [olistG_snoc, List.mem_append, List.mem_filter, ih]
    have e : opn (U ++ [x]) = opF (opn U) x := by simp [opn]
    rw [e]
    unfold opF
    by_cases hp : x.p = p
    · have hq : eqS x.p p = true := eqS_iff.2 hp
      by_cases k4 : x.k = 4
      · have hn := h4 k4
        have hr : isRe p n x = false := by simp [isRe, k4]
        have hg : isG b p x = (x.gr == b) := by simp [isG, isD, k4, hq]
        rw [if_pos k4, hr, hg]
        by_cases e : n = x.n
        · subst e
          subst hp
          rw [hn, if_pos rfl]
          cases x.gr <;> cases b <;> simp
        · have e2 : ¬ (p, n) = (x.p, x.n) := fun q => e (congrArg Prod.snd q)
          rw [if_neg e2]
          cases hgb : (x.gr == b) <;> simp [e]
      · have hg : isG b p x = false := by simp [isG, isD, k4]
        rw [if_neg k4, hg]
        by_cases k5 : x.k = 5
        · rw [if_pos k5]
          by_cases e : n = x.n
          · have hr : isRe p n x = true := by simp [isRe, k5, hq, e]
            have e3 : (p, n) = (x.p, x.n) := by rw [e, hp]
            rw [if_pos e3, hr]
            simp
          · have hr : isRe p n x = false := by simp [isRe, k5, Ne.symm e]
            rw [if_neg (fun q => e (congrArg Prod.snd q)), hr]
            simp
        · have hr : isRe p n x = false := by simp [isRe, k5]
          rw [if_neg k5, hr]
          simp
    · have hq : eqS x.p p = false := eqS_not.2 hp
      have hr : isRe p n x = false := by simp [isRe, hq]
      have hg : isG b p x = false := by simp [isG, isD, hq]
      have e2 : ¬ (p, n) = (x.p, x.n) := fun q => hp (congrArg Prod.fst q).symm
      rw [hr, hg]
      by_cases k4 : x.k = 4
      · rw [if_pos k4, if_neg e2]; simp
      · by_cases k5 : x.k = 5
        · rw [if_neg k4, if_pos k5, if_neg e2]; simp
        · rw [if_neg k4, if_neg k5]; simp
theorem opn_own (p : ByteArray) (U : List Ev) : ∀ q n, opn (U.filter (ownP p)) (q, n) = if q = p then opn U (q, n) else none := by
  refine snoc_ind (P := fun U => ∀ q n, opn (U.filter (ownP p)) (q, n) = if q = p then opn U (q, n) else none) ?_ ?_ U
  · intro q n; simp [opn]
  · intro U x ih q n
    have ih := ih q n
    have e : opn (U ++ [x]) = opF (opn U) x := by simp [opn]
    rw [List.filter_append, e]
    by_cases ho : ownP p x = true
    · have e2 : opn (U.filter (ownP p) ++ [x].filter (ownP p)) = opF (opn (U.filter (ownP p))) x := by simp [opn, ho]
      rw [e2]
      unfold opF
      rw [ih]
      by_cases hq : q = p
      · simp [hq]
      · have hne : x.k = 4 ∨ x.k = 5 → ¬ (q, n) = (x.p, x.n) := fun hk h => by
          unfold ownP at ho
          rw [Bool.or_eq_true] at ho
          rcases ho with h1 | h1
          · exact hq ((congrArg Prod.fst h).trans (eqS_iff.1 h1))
          · have : x.k = 3 := by simpa using h1
            omega
        rw [if_neg hq]
        by_cases k4 : x.k = 4
        · rw [if_pos k4, if_neg (hne (.inl k4)), if_neg hq]
        · by_cases k5 : x.k = 5
          · rw [if_neg k4, if_pos k5, if_neg (hne (.inr k5)), if_neg hq]
          · rw [if_neg k4, if_neg k5, if_neg hq]
    · have ho : ownP p x = false := by simpa using ho
      have e2 : opn (U.filter (ownP p) ++ [x].filter (ownP p)) = opn (U.filter (ownP p)) := by simp [opn, ho]
      rw [e2, ih]
      unfold ownP at ho
      rw [Bool.or_eq_false_iff] at ho
      have hxp := eqS_not.1 ho.1
      by_cases hq : q = p
      · subst hq
        rw [if_pos rfl, if_pos rfl]
        have hne : ¬ (q, n) = (x.p, x.n) := fun h => hxp (congrArg Prod.fst h).symm
        unfold opF
        by_cases k4 : x.k = 4
        · rw [if_pos k4, if_neg hne]
        · by_cases k5 : x.k = 5
          · rw [if_neg k4, if_pos k5, if_neg hne]
          · rw [if_neg k4, if_neg k5]
      · rw [if_neg hq, if_neg hq]
theorem olistG_of (g : Bool) : ∀ (U : List Ev) (p : ByteArray) (n : Int), n ∈ olistG g U p → ∃ x ∈ U, x.n = n
  | [], _, _, h => by simp [olistG] at h
  | x :: r, p, n, h => by
    rw [olistG] at h
    split at h
    · rcases List.mem_cons.1 h with h | h
      · exact ⟨x, List.mem_cons_self .., h.symm⟩
      · obtain ⟨y, hy, e⟩ := olistG_of g r p n h
        exact ⟨y, List.mem_cons_of_mem _ hy, e⟩
    · obtain ⟨y, hy, e⟩ := olistG_of g r p n h
      exact ⟨y, List.mem_cons_of_mem _ hy, e⟩
/-- A record up to a day is a record. -/
theorem ups (day : Int) : ∀ (l seen : List Ev), rGo seen l = 0 → (∀ x ∈ l, day < lastE seen → upF day x = false) ∧ rGo seen (l.filter (upF day)) = 0
  | [], _, _ => ⟨fun x h => by simp at h, rfl⟩
  | y :: r, seen, h => by
    rw [rGo] at h
    split at h
    · rename_i h0
      obtain ⟨h1, -⟩ := eE_more h0
      obtain ⟨i1, i2⟩ := ups day r (seen ++ [y]) h
      have hl : lastE (seen ++ [y]) = y.d := by simp [lastE]
      rw [hl] at i1
      refine ⟨fun x hx hlt => ?_, ?_⟩
      · have hy : ¬ y.d ≤ day := by omega
        rcases List.mem_cons.1 hx with rfl | hx
        · simp [upF]; omega
        · exact i1 x hx (by omega)
      · by_cases hy : y.d ≤ day
        · have e : upF day y = true := by simpa [upF] using hy
          rw [List.filter_cons_of_pos e, rGo, if_pos h0]
          exact i2
        · have e : upF day y = false := by simpa [upF] using hy
          have e2 : r.filter (upF day) = [] := List.filter_eq_nil_iff.2 fun x hx => by rw [i1 x hx (by omega)]; simp
          rw [List.filter_cons_of_neg (by simp [e]), e2]
          rfl
    · contradiction
theorem rec_go {l : List Ev} (h : recErr l = 0) : rGo [] l = 0 := by
  unfold recErr at h
  split at h
  · cases h
  · exact h
/-- The reasons, on both ways. -/
theorem against_same {l : List Ev} (hl : recErr l = 0) (ho : ∀ x ∈ l, evOk x) {p : ByteArray} (hp : p.size ≠ 0) (hp2 : p.size ≤ 30) (day : Int) {g t : Bool} (h1 : OpB (opn (l.filter (ownE p day))) true g) (h2 : OpB (opn (l.filter (ownE p day))) false t) :
    (!(stOf (l.filter (ownE p day))).de) = rB0 (l.filter (upF day)) p ∧ (!(stOf (l.filter (ownE p day))).ho) = rB1 (l.filter (upF day)) p ∧ aB2 (stOf (l.filter (ownE p day))) day = !freshB (l.filter (upF day)) p day ∧ g = decide (0 < (olistG true (l.filter (upF day)) p).length) ∧ t = decide (0 < (olistG false (l.filter (upF day)) p).length) := by
  have hv := (ups day l [] (rec_go hl)).2
  have hpl := rec_plat hl
  have hU : ∀ x ∈ l.filter (upF day), x ∈ l := fun x hx => (List.mem_filter.1 hx).1
  rw [own_two] at h1 h2 ⊢
  generalize l.filter (upF day) = U at *
  have h3 : ∀ x ∈ U, x.k = 3 → eqS x.p p = false := fun x hx hk => by
    have := hpl x (hU x hx)
    rw [platB, if_pos hk] at this
    have hz := emptyS_size.1 this
    exact eqS_not.2 fun e => hp (by rw [← e]; exact hz)
  obtain ⟨i1, i2, i3, i4, i5⟩ := tells U p h3 U.length (Nat.le_refl _)
  have hst : stT U p U.length = stOf (U.filter (ownP p)) := by unfold stT; rw [List.take_length]
  rw [hst] at i1 i2 i3 i4 i5
  generalize stOf (U.filter (ownP p)) = s at *
  have key : ∀ b c, OpB (opn (U.filter (ownP p))) b c → c = decide (0 < (olistG b U p).length) := fun b c hc => by
    rw [Bool.eq_iff_iff, decide_eq_true_iff, List.length_pos_iff_exists_mem]
    refine Iff.trans hc ?_
    constructor
    · rintro ⟨⟨q, n⟩, -, hq⟩
      rw [opn_own] at hq
      split at hq
      · rename_i e
        rw [e] at hq
        exact ⟨n, (open_iff p U hv n b).2 hq⟩
      · cases hq
    · rintro ⟨n, hn⟩
      have hq := (open_iff p U hv n b).1 hn
      obtain ⟨x, hx, rfl⟩ := olistG_of b U p n hn
      exact ⟨(p, x.n), ⟨by show p.size ≤ 1000; omega, ho x (hU x hx)⟩, by rw [opn_own, if_pos rfl]; exact hq⟩
  refine ⟨?_, ?_, ?_, key _ _ h1, key _ _ h2⟩
  · rw [i2]
    unfold rB0
    rw [Bool.eq_iff_iff]
    simp
  · rw [i3]
    unfold rB1
    rw [Bool.eq_iff_iff]
    cases psAt U (lastTo U 1 p U.length) <;> simp
  · unfold aB2 freshB
    by_cases hf : 0 ≤ frTo U p U.length
    · obtain ⟨x, hx, hd⟩ := i5 hf
      rw [i4, if_pos hf, hx, ← hd]
      rw [Bool.eq_iff_iff]
      simp [hf]
      omega
    · rw [i4, if_neg hf]
      simp [hf]

end Go.Proofs.Ytgjjjnofdjhikaa
