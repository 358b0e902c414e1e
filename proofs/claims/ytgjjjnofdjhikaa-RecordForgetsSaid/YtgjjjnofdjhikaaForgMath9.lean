/- Chapter 9: a record up to a day, and an alteration behind it. No walk. -/
import Derived.Test.YtgjjjnofdjhikaaDefG9
namespace Go.Proofs.Ytgjjjnofdjhikaa
open Go.RowKit Go.Maps

theorem mem_platsR {l : List Ev} {t : Tx} : t ∈ platsR l ↔ t ≠ [] ∧ ∃ x ∈ l, x.p.data.toList = t := by
  constructor
  · exact platsR_ne
  · rintro ⟨h0, x, hx, e⟩
    obtain ⟨-, b2⟩ := foldR_ok (l.map fun x => x.p.data.toList) [] List.Pairwise.nil
    exact (b2 t).2 (.inr ⟨List.mem_map.2 ⟨x, hx, e⟩, h0⟩)
theorem ba_eq {x p : ByteArray} (h : x.data.toList = p.data.toList) : x = p := by
  have h1 := ba_of (t := p.data.toList) h
  have h2 := ba_of (t := p.data.toList) (p := p) rfl
  exact h1.symm.trans h2
theorem inPl_iff {l : List Ev} {p : ByteArray} : inPl l p = true ↔ p.size ≠ 0 ∧ ∃ x ∈ l, x.p = p := by
  unfold inPl
  rw [decide_eq_true_iff, mem_platsR]
  constructor
  · rintro ⟨h0, x, hx, e⟩
    exact ⟨fun hz => h0 (size_nil hz), x, hx, ba_eq e⟩
  · rintro ⟨h0, x, hx, rfl⟩
    refine ⟨fun hz => h0 ?_, x, hx, rfl⟩
    show x.p.data.size = 0
    rw [← Array.length_toList, hz]
    rfl
theorem up_rec {l : List Ev} (h : recErr l = 0) (day : Int) : recErr (l.filter (upF day)) = 0 := by
  have h1 := recErr_small h
  have h2 := List.length_filter_le (upF day) l
  rw [recErr, if_neg (by omega)]
  exact (ups day l [] (rec_go h)).2
theorem up_up (l : List Ev) (day : Int) : (l.filter (upF day)).filter (upF day) = l.filter (upF day) := by
  rw [List.filter_filter]
  simp
theorem inPl_up {l : List Ev} {p : ByteArray} {day : Int} (h : inPl (l.filter (upF day)) p = true) : inPl l p = true := by
  obtain ⟨h0, x, hx, e⟩ := inPl_iff.1 h
  exact inPl_iff.2 ⟨h0, x, (List.mem_filter.1 hx).1, e⟩
theorem lastTo_none {U : List Ev} {p : ByteArray} (h : ∀ x ∈ U, eqS x.p p = false) (kd : Int) : ∀ k, k ≤ U.length → lastTo U kd p k = -1
  | 0, _ => rfl
  | k + 1, hk => by
    have hx : U[k]? = some (U[k]'(by omega)) := List.getElem?_eq_getElem (by omega)
    have hq := h _ (List.mem_of_getElem? hx)
    rw [lastTo_step hx false (by simp [isK, hq])]
    exact lastTo_none h kd k (by omega)
theorem frTo_none {U : List Ev} {p : ByteArray} (h : ∀ x ∈ U, eqS x.p p = false) : ∀ k, k ≤ U.length → frTo U p k = -1
  | 0, _ => rfl
  | k + 1, hk => by
    have hx : U[k]? = some (U[k]'(by omega)) := List.getElem?_eq_getElem (by omega)
    have hq := h _ (List.mem_of_getElem? hx)
    rw [frTo_step hx, frTo_none h k (by omega)]
    simp [frStep, isI, hq]
theorem olistG_none {g : Bool} : ∀ {U : List Ev} {p : ByteArray}, (∀ x ∈ U, eqS x.p p = false) → olistG g U p = []
  | [], _, _ => rfl
  | x :: r, p, h => by
    rw [olistG, if_neg (by simp [isG, isD, h x (List.mem_cons_self ..)])]
    exact olistG_none fun y hy => h y (List.mem_cons_of_mem _ hy)
/-- The reasons against a platform of which nothing is told. -/
theorem reasons_none {U : List Ev} {p : ByteArray} (hp : p.size ≠ 0) (h : inPl U p = false) (day : Int) : reasonsR U p day = [0, 1, 2] := by
  have hn : ∀ x ∈ U, eqS x.p p = false := fun x hx => eqS_not.2 fun e => by
    rw [inPl_iff.2 ⟨hp, x, hx, e⟩] at h
    cases h
  have l0 := lastTo_none hn 0 U.length (Nat.le_refl _)
  have lf := frTo_none hn U.length (Nat.le_refl _)
  unfold reasonsR rB0 rB1 freshB
  rw [l0, lf, olistG_none hn, olistG_none hn]
  simp [rs, one]
theorem lastE_up {l : List Ev} {day : Int} (h0 : 0 ≤ day) : lastE (l.filter (upF day)) ≤ day := by
  unfold lastE
  cases h : (l.filter (upF day)).getLast? with
  | none => simpa using h0
  | some x =>
    have hm := List.mem_of_getLast? h
    have := (List.mem_filter.1 hm).2
    simpa [upF] using this
def altE (day : Int) (p : ByteArray) : Ev := ⟨day, 6, p, 0, false, false⟩
theorem alt_rec {l : List Ev} (hl : recErr l = 0) {p : ByteArray} {day : Int} (hd : dayB day = true) (hp : inPl (l.filter (upF day)) p = true) (hn : l.length < 400) : recErr (l.filter (upF day) ++ [altE day p]) = 0 := by
  have hu := up_rec hl day
  have h2 := List.length_filter_le (upF day) l
  have h0 := (dayB_iff.1 hd).1
  have hle := lastE_up (l := l) h0
  obtain ⟨hp0, x, hx, hxp⟩ := inPl_iff.1 hp
  have hpl := rec_plat hu x hx
  have hname : platB 6 p = true := by
    unfold platB at hpl ⊢
    rw [if_neg (by decide)]
    split at hpl
    · have := emptyS_size.1 hpl
      rw [hxp] at this
      exact absurd this hp0
    · rwa [hxp] at hpl
  rw [recErr, if_neg (by simp; omega)]
  have key : ∀ (a seen : List Ev) (y : Ev), rGo seen a = 0 → eE (seen ++ a) y = 0 → rGo seen (a ++ [y]) = 0 := by
    intro a
    induction a with
    | nil =>
      intro seen y _ h
      rw [List.append_nil] at h
      rw [List.nil_append, rGo, if_pos h]
      rfl
    | cons z r ih =>
      intro seen y h h2
      rw [rGo] at h
      split at h
      · rename_i hz
        rw [List.cons_append, rGo, if_pos hz]
        exact ih (seen ++ [z]) y h (by simpa using h2)
      · contradiction
  refine key _ [] _ (rec_go hu) ?_
  rw [List.nil_append]
  unfold eE eEr altE
  dsimp only
  rw [hd, hname, decide_eq_false (show ¬ day < lastE (l.filter (upF day)) by omega)]
  have e1 : inR 0 6 6 = true := by decide
  have e2 : inR 0 9999 0 = true := by decide
  have e3 : plB 6 0 false false = true := by decide
  rw [e1, e2, e3]
  simp
/-- Behind an alteration a platform is red. -/
theorem alt_red (l : List Ev) (p : ByteArray) (day : Int) : tagR (reasonsR ((l.filter (upF day) ++ [altE day p]).filter (upF day)) p day) = 0 := by
  rw [List.filter_append, up_up]
  have e : [altE day p].filter (upF day) = [altE day p] := by simp [upF, altE]
  rw [e]
  generalize l.filter (upF day) = U
  have hx : (U ++ [altE day p])[U.length]? = some (altE day p) := by simp
  have hb : rB0 (U ++ [altE day p]) p = true := by
    unfold rB0
    rw [show (U ++ [altE day p]).length = U.length + 1 by simp]
    rw [lastTo_step hx (kd := 6) true (by simp [isK, altE, eqS_iff.2 rfl]), lastTo_step hx (kd := 0) false (by simp [isK, altE])]
    have := (lastTo_lt (U ++ [altE day p]) 0 p U.length).2
    simp [this]
  unfold reasonsR
  rw [hb, tagR_rs]
  simp [tagB]

end Go.Proofs.Ytgjjjnofdjhikaa
