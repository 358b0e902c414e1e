/- Chapter 8, without a walk: what a movement keeps, and the way back. -/
import Derived.Test.YtmcefodfppdajaaUndo8
import Derived.Test.YtmcefodfppdajaaRefMvs8
namespace Go.Proofs.Ytmcefodfppdajaa
open Go.RowKit Go.Maps Go.Deep

-- What a stock behind a movement is again.
def okK (k : Sh) : Prop := nameB k.1 = true ∧ k.1.size ≤ 30 ∧ (0 ≤ k.2.1 ∧ k.2.1 ≤ 99) ∧ 0 ≤ k.2.2 ∧ k.2.2 ≤ 3
def Fin8 (c : Sh → Int) : Prop := ∀ k, c k ≠ 0 → okK k
theorem fin8_stock {l : List Q4} (hs : ∀ x ∈ l, x.s.size ≤ 30) (h0 : stockErr l = 0) : Fin8 (cntS l) := fun k hk => by
  by_cases hx : ∃ x ∈ l, keyQ x = k
  · obtain ⟨x, hx, rfl⟩ := hx
    obtain ⟨h1, h2, h3, -⟩ := sE_zero ((stock_all h0).2 x hx)
    rw [inR_iff] at h2 h3
    exact ⟨h1, hs x hx, h2, h3⟩
  · exact absurd (cntS_none fun x hx' e => hx ⟨x, hx', e⟩) hk
theorem fin8_move {c : Sh → Int} {x : Mo} (hf : Fin8 c) (hp : x.p.size ≤ 30) (h : moErr x = 0) : Fin8 (mvC c x) := fun k hk => by
  obtain ⟨hn, hr, -⟩ := moErr_zero h
  obtain ⟨h1, h2, h3, h4, -⟩ := moR_iff hr
  have hmf : mvF c x k ≠ 0 → okK k := fun hk => by
    unfold mvF at hk
    split at hk
    · exact hf k hk
    · rename_i hne
      unfold upd at hk
      split at hk
      · rename_i e
        subst e
        exact ⟨hn, hp, ⟨by show 0 ≤ x.f; omega, h1.2⟩, h3⟩
      · exact hf k hk
  unfold mvC at hk
  split at hk
  · exact hmf hk
  · rename_i hne
    unfold upd at hk
    split at hk
    · rename_i e
      subst e
      exact ⟨hn, hp, ⟨by show 0 ≤ x.t; omega, h2.2⟩, h4⟩
    · exact hmf hk
theorem nf_stock {R : List Q4} {c : Sh → Int} (h : NF R c) (hf : Fin8 c) (hf' : Fin_ c) (hc : ∀ k, 0 ≤ c k ∧ c k ≤ 1000000) (hm : manyB c = false) : stockErr R = 0 ∧ ∀ y ∈ R, y.s.size ≤ 30 := by
  have hk : ∀ y ∈ R, c (keyQ y) = y.c ∧ okK (keyQ y) := fun y hy => by
    have e : c (keyQ y) = y.c := by rw [← h.cnt, asc_mem h.asc hy]
    exact ⟨e, hf _ (by rw [e]; exact h.nz y hy)⟩
  have hml := many_eq h.asc h.cnt hf'
  rw [hm] at hml
  unfold manyL at hml
  rw [Bool.or_eq_false_iff] at hml
  have hnz : nzL R = R := by
    unfold nzL
    rw [List.filter_eq_self]
    intro y hy
    simpa using h.nz y hy
  have hlen := hml.2
  rw [hnz] at hlen
  have hall : ∀ y ∈ R, sE y = 0 := fun y hy => by
    obtain ⟨e, k1, -, k2, k3⟩ := hk y hy
    have h1 : nameB y.s = true := k1
    have h2 : inR 0 99 y.a = true := inR_iff.2 k2
    have h3 : inR 0 3 y.b = true := inR_iff.2 k3
    have h4 : inR 0 1000000 y.c = true := inR_iff.2 (by rw [← e]; exact hc _)
    simp [sE, h1, h2, h3, h4]
  have hf0 : ∀ {m : List Q4}, (∀ y ∈ m, sE y = 0) → fstE sE m = 0 := by
    intro m
    induction m with
    | nil => intro _; rfl
    | cons y m ih =>
      intro hm
      rw [fstE, if_pos (hm y (by simp))]
      exact ih fun z hz => hm z (by simp [hz])
  refine ⟨?_, fun y hy => (hk y hy).2.2.1⟩
  unfold stockErr
  rw [if_neg (by simpa using hlen)]
  exact hf0 hall

-- Totals.
theorem tot_putL {x : Q4} (p : ByteArray) : ∀ L : List Q4, totS (putL x L) p = totS L p + (if eqS x.s p then x.c else 0)
  | [] => by simp [putL, totS]
  | y :: L => by
    unfold putL
    split
    · rw [totS, totS, tot_putL p L]
      omega
    · split
      · rw [totS]
        omega
      · rename_i h1 h2
        have e : keyQ y = keyQ x := ltK_tri (by simpa using h1) (by simpa using h2)
        have es : y.s = x.s := congrArg Prod.fst e
        rw [totS, totS, es]
        dsimp only
        split <;> omega
theorem tot_foldL (l : List Q4) (p : ByteArray) : totS (foldL l) p = totS l p := by
  have : ∀ (l m : List Q4), totS (l.foldl (fun m x => putL x m) m) p = totS m p + totS l p := by
    intro l
    induction l with
    | nil => intro m; simp [totS]
    | cons x l ih =>
      intro m
      rw [List.foldl_cons, ih, tot_putL, totS]
      omega
  unfold foldL
  rw [this]
  simp [totS]
theorem tot_nzL (p : ByteArray) : ∀ L : List Q4, totS (nzL L) p = totS L p
  | [] => rfl
  | y :: L => by
    have ih := tot_nzL p L
    unfold nzL at ih ⊢
    rw [List.filter_cons]
    split
    · rw [totS, totS, ih]
    · rename_i h
      have h0 : y.c = 0 := by simpa using h
      rw [totS, ih, h0]
      split <;> omega
def putM (x : Mo) (L : List Q4) : List Q4 := (if x.t = -1 then id else putL ⟨x.p, x.t, x.a, x.n⟩) ((if x.f = -1 then id else putL ⟨x.p, x.f, x.b, -x.n⟩) L)
theorem putM_asc {x : Mo} {L : List Q4} (h : Asc L) : Asc (putM x L) := by
  unfold putM
  split <;> split
  · exact h
  · exact putL_asc h
  · exact putL_asc h
  · exact putL_asc (putL_asc h)
theorem putM_cnt {x : Mo} {L : List Q4} {c : Sh → Int} (h : ∀ k, cntS L k = c k) (k : Sh) : cntS (putM x L) k = mvC c x k := by
  unfold putM mvC mvF
  split <;> split
  · exact h k
  · exact putL_upd h k
  · exact putL_upd h k
  · exact putL_upd (putL_upd h) k
def more (x : Mo) (p : ByteArray) : Int := if eqS x.p p then (if x.f = -1 then 0 else -x.n) + (if x.t = -1 then 0 else x.n) else 0
theorem putM_tot (x : Mo) (L : List Q4) (p : ByteArray) : totS (putM x L) p = totS L p + more x p := by
  unfold putM more
  by_cases h1 : x.t = -1 <;> by_cases h2 : x.f = -1 <;> cases h3 : eqS x.p p <;> simp [h1, h2, tot_putL, h3] <;> omega
theorem move_total {l R : List Q4} {x : Mo} (h : NF R (mvC (cntS l) x)) (p : ByteArray) : totS R p = totS l p + more x p := by
  have h2 := nzL_nf (putM_asc (x := x) (foldL_asc l))
  have e : R = nzL (putM x (foldL l)) := nf_same h.asc h2.asc h.nz h2.nz fun k => by
    rw [h.cnt, h2.cnt, putM_cnt (fun q => foldL_c q)]
  rw [e, tot_nzL, putM_tot, tot_foldL]

-- The way back.
theorem back_c {c : Sh → Int} {x : Mo} : mvC (mvC c x) x.opp = c := by
  obtain ⟨p, f, t, b, a, m⟩ := x
  funext k
  unfold mvC mvF Mo.opp
  dsimp only
  by_cases h1 : f = -1 <;> by_cases h2 : t = -1 <;> simp only [h1, h2, if_true, if_false, upd]
  all_goals
    (repeat' split) <;> first | rfl | omega | contradiction
theorem back_err {c : Sh → Int} {x : Mo} (hc : Pos8 c) (h : mvErr c x = 0) (hu : perm x.opp = true) (hm : manyB c = false) : mvErr (mvC c x) x.opp = 0 := by
  obtain ⟨h1, h2, h3⟩ := mvErr_zero h
  obtain ⟨hn, hr, -⟩ := moErr_zero h1
  have hr2 : moR x.opp = true := by
    unfold moR at hr ⊢
    unfold Mo.opp
    simp only [Bool.and_eq_true] at hr ⊢
    exact ⟨⟨hr.1.2, hr.1.1⟩, ⟨hr.2.1.2, hr.2.1.1⟩, hr.2.2⟩
  have hn2 : nameB x.opp.p = true := hn
  have e1 : moErr x.opp = 0 := by unfold moErr; rw [if_pos hn2, if_pos hr2, if_pos hu]
  have e2 : ¬ (x.opp.f ≠ -1 ∧ mvC c x (x.opp.p, x.opp.f, x.opp.b) < x.opp.n) := by
    rintro ⟨q1, q2⟩
    have q1' : ¬ x.t = -1 := q1
    have q2' : mvC c x (x.p, x.t, x.a) < x.n := q2
    unfold mvC at q2'
    rw [if_neg q1'] at q2'
    unfold upd at q2'
    rw [if_pos rfl] at q2'
    have h0 : 0 ≤ mvF c x (x.p, x.t, x.a) := by
      have := hc (x.p, x.t, x.a)
      unfold mvF
      split
      · omega
      · rename_i hne
        unfold upd
        split
        · rename_i e
          have : ¬ c (x.p, x.f, x.b) < x.n := fun hh => h2 ⟨hne, hh⟩
          rw [e]
          omega
        · omega
    omega
  unfold mvErr
  rw [if_pos e1, if_neg e2, back_c, hm]
  rfl

end Go.Proofs.Ytmcefodfppdajaa
