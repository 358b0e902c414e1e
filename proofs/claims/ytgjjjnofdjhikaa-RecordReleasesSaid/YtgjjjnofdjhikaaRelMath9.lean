/- Chapter 9: what the law RecordReleases keeps, event by event, against the program's status. No walk. -/
import Derived.Test.YtgjjjnofdjhikaaDefG9
namespace Go.Proofs.Ytgjjjnofdjhikaa
open Go.RowKit Go.Maps

structure Lw where
  de : Bool
  ho : Bool
  fr : Int
  op : List Int
def lw0 : Lw := ⟨false, false, -1, []⟩
def lwF (s : Lw) (x : Ev) : Lw :=
  if x.k = 0 then ⟨true, false, s.fr, s.op⟩
  else if x.k = 6 then ⟨false, s.ho, s.fr, s.op⟩
  else if x.k = 3 then ⟨s.de, s.ho, -1, s.op⟩
  else if x.k = 1 then ⟨s.de, x.ps, if x.ps then x.d else -1, s.op⟩
  else if x.k = 2 then ⟨s.de, s.ho, if x.ps then x.d else -1, s.op⟩
  else if x.k = 4 then ⟨s.de, s.ho, s.fr, s.op ++ [x.n]⟩
  else if x.k = 5 then ⟨s.de, s.ho, s.fr, s.op.filter fun z => decide (z ≠ x.n)⟩
  else s
def lwOf (F : List Ev) : Lw := F.foldl lwF lw0
structure LwR (p : ByteArray) (F : List Ev) (s : St) (L : Lw) : Prop where
  de : L.de = s.de
  ho : s.ho = (s.hd && L.ho)
  fr : L.fr = if s.is then s.d else -1
  op : ∀ n, n ∈ L.op ↔ (opn F (p, n)).isSome = true
theorem lw_rel (p : ByteArray) (F : List Ev) : (∀ x ∈ F, ownP p x = true) → LwR p F (stOf F) (lwOf F) := by
  refine snoc_ind (P := fun F => (∀ x ∈ F, ownP p x = true) → LwR p F (stOf F) (lwOf F)) ?_ ?_ F
  · intro _
    exact ⟨rfl, rfl, rfl, fun n => by simp [lwOf, lw0, opn]⟩
  · intro F x ih h
    obtain ⟨i1, i2, i3, i4⟩ := ih fun y hy => h y (List.mem_append_left _ hy)
    have hx := h x (List.mem_append_right _ (List.mem_singleton.2 rfl))
    have e1 : stOf (F ++ [x]) = stF (stOf F) x := by simp [stOf]
    have e2 : lwOf (F ++ [x]) = lwF (lwOf F) x := by simp [lwOf]
    have e3 : opn (F ++ [x]) = opF (opn F) x := by simp [opn]
    rw [e1, e2]
    have hq : x.k = 3 ∨ x.p = p := by
      unfold ownP at hx
      rw [Bool.or_eq_true, eqS_iff] at hx
      rcases hx with h | h
      · exact .inr h
      · exact .inl (by simpa using h)
    have hop : ∀ {L : Lw}, L.op = (lwOf F).op → x.k ≠ 4 → x.k ≠ 5 → ∀ n, n ∈ L.op ↔ (opn (F ++ [x]) (p, n)).isSome = true := fun hL h4 h5 n => by
      rw [hL, e3, i4]
      simp [opF, h4, h5]
    generalize lwOf F = L at *
    generalize stOf F = s at *
    by_cases k0 : x.k = 0
    · exact ⟨by simp [lwF, stF, k0], by simp [lwF, stF, k0], by simp [lwF, stF, k0, i3], hop (by simp [lwF, k0]) (by omega) (by omega)⟩
    by_cases k1 : x.k = 1
    · exact ⟨by simp [lwF, stF, k1, i1], by simp [lwF, stF, k1], by simp [lwF, stF, k1], hop (by simp [lwF, k1]) (by omega) (by omega)⟩
    by_cases k2 : x.k = 2
    · exact ⟨by simp [lwF, stF, k2, i1], by simp [lwF, stF, k2, i2], by simp [lwF, stF, k2], hop (by simp [lwF, k2]) (by omega) (by omega)⟩
    by_cases k3 : x.k = 3
    · exact ⟨by simp [lwF, stF, k3, i1], by simp [lwF, stF, k3, i2], by simp [lwF, stF, k3], hop (by simp [lwF, k3]) (by omega) (by omega)⟩
    by_cases k6 : x.k = 6
    · exact ⟨by simp [lwF, stF, k6], by simp [lwF, stF, k6, i2], by simp [lwF, stF, k6, i3], hop (by simp [lwF, k6]) (by omega) (by omega)⟩
    have hs : stF s x = s := by simp [stF, k0, k1, k2, k3, k6]
    have hp := hq.resolve_left k3
    rw [hs]
    by_cases k4 : x.k = 4
    · refine ⟨by simp [lwF, k4, i1], by simp [lwF, k4, i2], by simp [lwF, k4, i3], fun n => ?_⟩
      have e : (lwF L x).op = L.op ++ [x.n] := by simp [lwF, k4]
      rw [e, List.mem_append, List.mem_singleton, i4, e3]
      unfold opF
      rw [if_pos k4]
      by_cases hn : n = x.n
      · rw [if_pos (by rw [hn, hp])]; simp [hn]
      · rw [if_neg (fun q => hn (congrArg Prod.snd q))]; simp [hn]
    by_cases k5 : x.k = 5
    · refine ⟨by simp [lwF, k5, i1], by simp [lwF, k5, i2], by simp [lwF, k5, i3], fun n => ?_⟩
      have e : (lwF L x).op = L.op.filter fun z => decide (z ≠ x.n) := by simp [lwF, k5]
      rw [e, List.mem_filter, i4, e3]
      unfold opF
      rw [if_neg k4, if_pos k5]
      by_cases hn : n = x.n
      · rw [if_pos (by rw [hn, hp])]; simp [hn]
      · rw [if_neg (fun q => hn (congrArg Prod.snd q))]; simp [hn]
    · have e : lwF L x = L := by simp [lwF, k0, k1, k2, k3, k4, k5, k6]
      rw [e]
      exact ⟨i1, i2, i3, hop rfl k4 k5⟩
theorem lw_len : ∀ (F : List Ev) (s : Lw), (F.foldl lwF s).op.length ≤ s.op.length + F.length
  | [], s => by simp
  | x :: r, s => by
    have h1 := lw_len r (lwF s x)
    have h2 : (lwF s x).op.length ≤ s.op.length + 1 := by
      unfold lwF
      have hf := List.length_filter_le (fun z => decide (z ≠ x.n)) s.op
      repeat' split
      all_goals (first | ((try dsimp only); omega) | ((try dsimp only); rw [List.length_append]; simp))
    rw [List.foldl_cons, List.length_cons]
    omega
theorem lw_fr : ∀ (F : List Ev) (s : Lw), (∀ x ∈ F, 0 ≤ x.d ∧ x.d ≤ 1000000000) → -1 ≤ s.fr ∧ s.fr ≤ 1000000000 → -1 ≤ (F.foldl lwF s).fr ∧ (F.foldl lwF s).fr ≤ 1000000000
  | [], s, _, h => h
  | x :: r, s, hd, h => by
    have hx := hd x (List.mem_cons_self ..)
    refine lw_fr r (lwF s x) (fun y hy => hd y (List.mem_cons_of_mem _ hy)) ?_
    unfold lwF
    repeat' split
    all_goals ((try dsimp only); omega)
theorem tagB_two {b0 b1 b2 b3 b4 : Bool} (h : tagB b0 b1 b2 b3 b4 = 2) : b0 = false ∧ b1 = false ∧ b2 = false ∧ b3 = false ∧ b4 = false := by
  cases b0 <;> cases b1 <;> cases b2 <;> cases b3 <;> cases b4 <;> first | exact ⟨rfl, rfl, rfl, rfl, rfl⟩ | (exfalso; revert h; decide)
theorem opB_ex (f : Df → Option Bool) (b : Bool) : ∃ g, OpB f b g := by
  by_cases h : ∃ q, dfOk q ∧ f q = some b
  · exact ⟨true, fun _ => h, fun _ => rfl⟩
  · exact ⟨false, fun q => (by cases q), fun q => absurd q h⟩
theorem green_law {l : List Ev} (hl : recErr l = 0) (ho : ∀ x ∈ l, evOk x) {p : ByteArray} (hp : p.size ≠ 0) (hp2 : p.size ≤ 30) {day : Int} (hg : tagR (reasonsR (l.filter (upF day)) p day) = 2) :
    (lwOf (l.filter (ownE p day))).de = true ∧ (lwOf (l.filter (ownE p day))).ho = true ∧ 0 ≤ (lwOf (l.filter (ownE p day))).fr ∧ day - (lwOf (l.filter (ownE p day))).fr ≤ 7 ∧ (lwOf (l.filter (ownE p day))).op = [] := by
  have hown : ∀ x ∈ l.filter (ownE p day), ownP p x = true := fun x hx => by
    have := (List.mem_filter.1 hx).2
    unfold ownE at this
    rw [Bool.and_eq_true] at this
    exact this.2
  obtain ⟨i1, i2, i3, i4⟩ := lw_rel p _ hown
  obtain ⟨g, h1⟩ := opB_ex (opn (l.filter (ownE p day))) true
  obtain ⟨t, h2⟩ := opB_ex (opn (l.filter (ownE p day))) false
  obtain ⟨e0, e1, e2, e3, e4⟩ := against_same hl ho hp hp2 day h1 h2
  have hv := (ups day l [] (rec_go hl)).2
  have hdd := fold_d (l.filter (ownE p day)) st0 (by simp [st0]) (fun x hx => rec_days hl x (List.mem_filter.1 hx).1)
  rw [show reasonsR (l.filter (upF day)) p day = rs (rB0 (l.filter (upF day)) p) (rB1 (l.filter (upF day)) p) (!freshB (l.filter (upF day)) p day) (decide (0 < (olistG true (l.filter (upF day)) p).length)) (decide (0 < (olistG false (l.filter (upF day)) p).length)) from rfl, tagR_rs] at hg
  obtain ⟨f0, f1, f2, f3, f4⟩ := tagB_two hg
  rw [f0] at e0
  rw [f1] at e1
  rw [f2] at e2
  have d0 : (stOf (l.filter (ownE p day))).de = true := by simpa using e0
  have d1 : (stOf (l.filter (ownE p day))).ho = true := by simpa using e1
  have d2 : (stOf (l.filter (ownE p day))).is = true ∧ ¬ (stOf (l.filter (ownE p day))).d + 7 < day := by
    unfold aB2 at e2
    rw [Bool.or_eq_false_iff] at e2
    exact ⟨by simpa using e2.1, of_decide_eq_false e2.2⟩
  rw [d1] at i2
  rw [d2.1, if_pos rfl] at i3
  have hfr : (lwOf (l.filter (ownE p day))).fr = (stOf (l.filter (ownE p day))).d := i3
  have hsd : 0 ≤ (stOf (l.filter (ownE p day))).d := hdd.1
  refine ⟨i1.trans d0, ?_, by omega, by have := d2.2; omega, ?_⟩
  · have := i2.symm
    rw [Bool.and_eq_true] at this
    exact this.2
  · refine List.eq_nil_iff_forall_not_mem.2 fun n hn => ?_
    have hs := (i4 n).1 hn
    rw [own_two, opn_own, if_pos rfl] at hs
    obtain ⟨b, hb⟩ := Option.isSome_iff_exists.1 hs
    have hm := (open_iff p _ hv n b).2 hb
    have hlen := List.length_pos_of_mem hm
    cases b
    · have := of_decide_eq_false f4
      omega
    · have := of_decide_eq_false f3
      omega

end Go.Proofs.Ytgjjjnofdjhikaa
