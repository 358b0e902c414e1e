/- Chapter 8, without a walk: what lies on shelves, and stocks in order. No program is named here. -/
import Derived.Test.YtmcefodfppdajaaKinds9
import Derived.Sort.Walk0
namespace Go.Proofs.Ytmcefodfppdajaa
open Go.RowKit

/-- A shelf: part, place, state. -/
abbrev Sh := ByteArray × Int × Int
def keyQ (x : Q4) : Sh := (x.s, x.a, x.b)
def cntS : List Q4 → Sh → Int
  | [], _ => 0
  | x :: r, k => (if keyQ x = k then x.c else 0) + cntS r k
theorem cntS_append (k : Sh) : ∀ l m : List Q4, cntS (l ++ m) k = cntS l k + cntS m k
  | [], m => by simp [cntS]
  | x :: l, m => by
    rw [List.cons_append, cntS, cntS, cntS_append k l m]
    omega
theorem cntS_step {l : List Q4} {i : Nat} {x : Q4} (h : l[i]? = some x) (k : Sh) : cntS (l.take (i + 1)) k = cntS (l.take i) k + (if keyQ x = k then x.c else 0) := by
  rw [take_step h, cntS_append]
  simp [cntS]
theorem cntS_none {k : Sh} : ∀ {l : List Q4}, (∀ x ∈ l, keyQ x ≠ k) → cntS l k = 0
  | [], _ => rfl
  | x :: l, h => by
    rw [cntS, if_neg (h x (by simp)), cntS_none fun y hy => h y (by simp [hy])]
    rfl
theorem cntS_bd {k : Sh} : ∀ {l : List Q4}, (∀ x ∈ l, 0 ≤ x.c ∧ x.c ≤ 1000000) → 0 ≤ cntS l k ∧ cntS l k ≤ 1000000 * (l.length : Int)
  | [], _ => by simp [cntS]
  | x :: l, h => by
    have h1 := h x (by simp)
    have h2 := cntS_bd (k := k) (l := l) fun y hy => h y (by simp [hy])
    rw [cntS, List.length_cons]
    split <;> omega
/-- Counts of 0 are not on the shelves. -/
def nz (c : Sh → Int) (k : Sh) : Option Int := if c k = 0 then none else some (c k)
theorem nz_getD (c : Sh → Int) (k : Sh) : (nz c k).getD 0 = c k := by
  unfold nz
  split <;> simp [*]
theorem nz_some (c : Sh → Int) (k : Sh) : (nz c k).isSome = true ↔ c k ≠ 0 := by
  unfold nz
  split <;> simp [*]
def upd (c : Sh → Int) (at_ : Sh) (n : Int) (k : Sh) : Int := if k = at_ then c k + n else c k

-- The order of texts and of shelves.
def ltS (a b : ByteArray) : Bool := Op.bytesLess a.toList b.toList
theorem ltS_iff {a b : ByteArray} : ltS a b = true ↔ a.toList < b.toList := by
  unfold ltS
  rw [bytesLess_eq]
  simp
theorem toList_inj {a b : ByteArray} (h : a.toList = b.toList) : a = b := by
  have e : ∀ x : ByteArray, x.toList = x.data.toList := fun x => by first | exact ByteArray.toList_eq x | simp
  rw [e, e] at h
  have := Array.toList_inj.1 h
  cases a
  cases b
  simpa using this
theorem ltS_irrefl (a : ByteArray) : ltS a a = false := by
  cases h : ltS a a with
  | false => rfl
  | true => exact absurd (ltS_iff.1 h) (List.lt_irrefl _)
theorem ltS_trans {a b c : ByteArray} (h1 : ltS a b = true) (h2 : ltS b c = true) : ltS a c = true := ltS_iff.2 (List.lt_trans (ltS_iff.1 h1) (ltS_iff.1 h2))
theorem ltS_asymm {a b : ByteArray} (h1 : ltS a b = true) : ltS b a = false := by
  cases h : ltS b a with
  | false => rfl
  | true =>
    have := ltS_trans h1 h
    rw [ltS_irrefl] at this
    cases this
theorem ltS_tri {a b : ByteArray} (h1 : ltS a b = false) (h2 : ltS b a = false) : a = b := by
  refine toList_inj (List.le_antisymm (fun h => ?_) (fun h => ?_))
  · rw [ltS_iff.2 h] at h2
    cases h2
  · rw [ltS_iff.2 h] at h1
    cases h1
def ltK (a b : Sh) : Bool := ltS a.1 b.1 || (decide (a.1 = b.1) && (decide (a.2.1 < b.2.1) || (decide (a.2.1 = b.2.1) && decide (a.2.2 < b.2.2))))
theorem ltK_iff {a b : Sh} : ltK a b = true ↔ ltS a.1 b.1 = true ∨ (a.1 = b.1 ∧ (a.2.1 < b.2.1 ∨ (a.2.1 = b.2.1 ∧ a.2.2 < b.2.2))) := by simp [ltK]
theorem ltK_irrefl (a : Sh) : ltK a a = false := by simp [ltK, ltS_irrefl]
theorem ltK_trans {a b c : Sh} (h1 : ltK a b = true) (h2 : ltK b c = true) : ltK a c = true := by
  rw [ltK_iff] at h1 h2 ⊢
  rcases h1 with h1 | ⟨e1, h1⟩ <;> rcases h2 with h2 | ⟨e2, h2⟩
  · exact .inl (ltS_trans h1 h2)
  · exact .inl (e2 ▸ h1)
  · exact .inl (e1 ▸ h2)
  · exact .inr ⟨e1.trans e2, by omega⟩
theorem ltK_asymm {a b : Sh} (h1 : ltK a b = true) : ltK b a = false := by
  cases h : ltK b a with
  | false => rfl
  | true =>
    have := ltK_trans h1 h
    rw [ltK_irrefl] at this
    cases this
theorem ltK_tri {a b : Sh} (h1 : ltK a b = false) (h2 : ltK b a = false) : a = b := by
  obtain ⟨a1, a2, a3⟩ := a
  obtain ⟨b1, b2, b3⟩ := b
  have q1 : ¬ ltK (a1, a2, a3) (b1, b2, b3) = true := by simp [h1]
  have q2 : ¬ ltK (b1, b2, b3) (a1, a2, a3) = true := by simp [h2]
  rw [ltK_iff] at q1 q2
  simp only [not_or, not_and] at q1 q2
  have e : a1 = b1 := ltS_tri (by simpa using q1.1) (by simpa using q2.1)
  have q3 := q1.2 e
  have q4 := q2.2 e.symm
  subst e
  have e2 : a2 = b2 := by omega
  subst e2
  have e3 : a3 = b3 := by have := q3.2 rfl; have := q4.2 rfl; omega
  subst e3
  rfl
def Asc (l : List Q4) : Prop := l.Pairwise fun x y => ltK (keyQ x) (keyQ y) = true
theorem Asc.head {x : Q4} {l : List Q4} (h : Asc (x :: l)) : cntS l (keyQ x) = 0 := cntS_none fun y hy e => by
  have := (List.pairwise_cons.1 h).1 y hy
  rw [e, ltK_irrefl] at this
  cases this
theorem Asc.low {x : Q4} {l : List Q4} {k : Sh} (h : Asc (x :: l)) (hk : ltK k (keyQ x) = true) : cntS (x :: l) k = 0 := cntS_none fun y hy e => by
  rcases List.mem_cons.1 hy with rfl | hy
  · rw [e, ltK_irrefl] at hk
    cases hk
  · have := ltK_trans hk ((List.pairwise_cons.1 h).1 y hy)
    rw [e, ltK_irrefl] at this
    cases this
/-- A stock in normal form with these counts. -/
structure NF (l : List Q4) (c : Sh → Int) : Prop where
  asc : Asc l
  nz : ∀ x ∈ l, x.c ≠ 0
  cnt : ∀ k, cntS l k = c k
theorem nf_same : ∀ {l m : List Q4}, Asc l → Asc m → (∀ x ∈ l, x.c ≠ 0) → (∀ x ∈ m, x.c ≠ 0) → (∀ k, cntS l k = cntS m k) → l = m
  | [], [], _, _, _, _, _ => rfl
  | [], y :: m, _, hm, _, h2, h => by
    have h3 : cntS (y :: m) (keyQ y) = y.c := by rw [cntS, if_pos rfl, hm.head]; omega
    exact absurd ((h (keyQ y)).trans h3).symm (h2 y (by simp))
  | x :: l, [], hl, _, h1, _, h => by
    have h3 : cntS (x :: l) (keyQ x) = x.c := by rw [cntS, if_pos rfl, hl.head]; omega
    exact absurd (h3.symm.trans (h (keyQ x))) (h1 x (by simp))
  | x :: l, y :: m, hl, hm, h1, h2, h => by
    have hx := h (keyQ x)
    have hy := h (keyQ y)
    have nx := h1 x (by simp)
    have ny := h2 y (by simp)
    have e : keyQ x = keyQ y := by
      refine ltK_tri ?_ ?_
      · cases hlt : ltK (keyQ x) (keyQ y) with
        | false => rfl
        | true =>
          rw [hm.low hlt, cntS, if_pos rfl, hl.head] at hx
          omega
      · cases hlt : ltK (keyQ y) (keyQ x) with
        | false => rfl
        | true =>
          rw [hl.low hlt, cntS, if_pos rfl, hm.head] at hy
          omega
    have ec : x.c = y.c := by
      rw [cntS, if_pos rfl, hl.head, cntS, if_pos e.symm, e, hm.head] at hx
      omega
    have exy : x = y := by
      obtain ⟨s1, a1, b1, c1⟩ := x
      obtain ⟨s2, a2, b2, c2⟩ := y
      simp only [keyQ, Prod.mk.injEq] at e
      obtain ⟨rfl, rfl, rfl⟩ := e
      simp only at ec
      subst ec
      rfl
    subst exy
    rw [nf_same (List.pairwise_cons.1 hl).2 (List.pairwise_cons.1 hm).2 (fun z hz => h1 z (by simp [hz])) (fun z hz => h2 z (by simp [hz])) fun k => by
      have := h k
      rw [cntS, cntS] at this
      omega]
theorem NF.same {l m : List Q4} {c : Sh → Int} (h : NF l c) (h' : NF m c) : l = m := nf_same h.asc h'.asc h.nz h'.nz fun k => (h.cnt k).trans (h'.cnt k).symm
theorem asc_mem {l : List Q4} (h : Asc l) : ∀ {x : Q4}, x ∈ l → cntS l (keyQ x) = x.c := by
  induction l with
  | nil => intro x hx; cases hx
  | cons y l ih =>
    intro x hx
    rcases List.mem_cons.1 hx with rfl | hx
    · rw [cntS, if_pos rfl, h.head]
      omega
    · have hlt := (List.pairwise_cons.1 h).1 x hx
      rw [cntS, if_neg (fun e => by rw [e, ltK_irrefl] at hlt; cases hlt), ih (List.pairwise_cons.1 h).2 hx]
      omega
/-- The reference's way: into the order. -/
def putL (x : Q4) : List Q4 → List Q4
  | [] => [x]
  | y :: l => if ltK (keyQ y) (keyQ x) then y :: putL x l else if ltK (keyQ x) (keyQ y) then x :: y :: l else ⟨x.s, x.a, x.b, x.c + y.c⟩ :: l
theorem putL_mem {x : Q4} : ∀ {l : List Q4} {z : Q4}, z ∈ putL x l → keyQ z = keyQ x ∨ z ∈ l
  | [], z, h => by simp [putL] at h; exact .inl (by rw [h])
  | y :: l, z, h => by
    rw [putL] at h
    split at h
    · rcases List.mem_cons.1 h with rfl | h
      · exact .inr (by simp)
      · rcases putL_mem h with h | h
        · exact .inl h
        · exact .inr (by simp [h])
    · split at h
      · rcases List.mem_cons.1 h with rfl | h
        · exact .inl rfl
        · exact .inr h
      · rcases List.mem_cons.1 h with rfl | h
        · exact .inl rfl
        · exact .inr (by simp [h])
theorem putL_asc {x : Q4} : ∀ {l : List Q4}, Asc l → Asc (putL x l)
  | [], _ => List.pairwise_singleton _ _
  | y :: l, h => by
    have h1 := List.pairwise_cons.1 h
    rw [putL]
    split
    · rename_i hyx
      refine List.pairwise_cons.2 ⟨fun z hz => ?_, putL_asc h1.2⟩
      rcases putL_mem hz with e | hz
      · rw [e]; exact hyx
      · exact h1.1 z hz
    · rename_i hyx
      split
      · rename_i hxy
        refine List.pairwise_cons.2 ⟨fun z hz => ?_, h⟩
        rcases List.mem_cons.1 hz with rfl | hz
        · exact hxy
        · exact ltK_trans hxy (h1.1 z hz)
      · rename_i hxy
        have e : keyQ y = keyQ x := ltK_tri (by simpa using hyx) (by simpa using hxy)
        refine List.pairwise_cons.2 ⟨fun z hz => ?_, h1.2⟩
        show ltK (keyQ x) (keyQ z) = true
        rw [← e]
        exact h1.1 z hz
theorem putL_cnt {x : Q4} (k : Sh) : ∀ l : List Q4, cntS (putL x l) k = cntS l k + (if keyQ x = k then x.c else 0)
  | [] => by simp [putL, cntS]
  | y :: l => by
    rw [putL]
    split
    · rw [cntS, cntS, putL_cnt k l]
      omega
    · rename_i hyx
      split
      · rw [cntS, cntS]
        omega
      · rename_i hxy
        have e : keyQ y = keyQ x := ltK_tri (by simpa using hyx) (by simpa using hxy)
        rw [cntS, cntS, e]
        show (if keyQ x = k then x.c + y.c else 0) + cntS l k = _
        split <;> omega
theorem putL_len {x : Q4} : ∀ l : List Q4, (putL x l).length ≤ l.length + 1
  | [] => by simp [putL]
  | y :: l => by
    have := putL_len (x := x) l
    rw [putL]
    split
    · simp; omega
    · split <;> simp
def foldL (l : List Q4) : List Q4 := l.foldl (fun m x => putL x m) []
theorem foldL_asc (l : List Q4) : Asc (foldL l) := by
  have : ∀ (l m : List Q4), Asc m → Asc (l.foldl (fun m x => putL x m) m) := by
    intro l
    induction l with
    | nil => exact fun m h => h
    | cons x l ih => exact fun m h => ih _ (putL_asc h)
  exact this l [] List.Pairwise.nil
theorem foldL_cnt (k : Sh) (l : List Q4) : cntS (foldL l) k = cntS l k := by
  have : ∀ (l m : List Q4), cntS (l.foldl (fun m x => putL x m) m) k = cntS m k + cntS l k := by
    intro l
    induction l with
    | nil => intro m; simp [cntS]
    | cons x l ih =>
      intro m
      rw [List.foldl_cons, ih, putL_cnt, cntS]
      omega
  have := this l []
  simpa [cntS, foldL] using this
theorem foldL_len (l : List Q4) : (foldL l).length ≤ l.length := by
  have : ∀ (l m : List Q4), (l.foldl (fun m x => putL x m) m).length ≤ m.length + l.length := by
    intro l
    induction l with
    | nil => intro m; simp
    | cons x l ih =>
      intro m
      rw [List.foldl_cons]
      have h1 := ih (putL x m)
      have h2 := putL_len (x := x) m
      simp
      omega
  have := this l []
  simpa [foldL] using this
theorem foldL_step {l : List Q4} {i : Nat} {x : Q4} (h : l[i]? = some x) : foldL (l.take (i + 1)) = putL x (foldL (l.take i)) := by
  rw [take_step h, foldL, List.foldl_append]
  rfl
def nzL (l : List Q4) : List Q4 := l.filter fun x => decide (x.c ≠ 0)
theorem nzL_nf {l : List Q4} (h : Asc l) : NF (nzL l) (cntS l) := by
  refine ⟨h.filter _, fun x hx => by simpa using (List.mem_filter.1 hx).2, fun k => ?_⟩
  induction l with
  | nil => rfl
  | cons x l ih =>
    have ih := ih (List.pairwise_cons.1 h).2
    unfold nzL at ih ⊢
    rw [List.filter_cons]
    split
    · rw [cntS, cntS, ih]
    · rename_i hz
      simp at hz
      rw [cntS, ih, hz]
      simp
/-- More than a normal form can have. -/
def manyL (l : List Q4) : Bool := l.any (fun x => decide (1000000 < x.c)) || decide (200 < (nzL l).length)
theorem keyQ_of (k : Sh) (n : Int) : keyQ ⟨k.1, k.2.1, k.2.2, n⟩ = k := rfl

end Go.Proofs.Ytmcefodfppdajaa
