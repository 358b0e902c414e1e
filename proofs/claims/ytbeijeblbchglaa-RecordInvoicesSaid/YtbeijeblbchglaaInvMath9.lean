/- Chapter 9: what is charged never becomes less. No program is named here. -/
import Derived.Test.YtbeijeblbchglaaChgMathB9
namespace Go.Proofs.Ytbeijeblbchglaa

theorem sumC_app (a b : List Q4) : sumC (a ++ b) = sumC a + sumC b := by simp [sumC]
theorem sumC_cons (x : Q4) (b : List Q4) : sumC (x :: b) = x.c + sumC b := by simp [sumC]
/-- What lots are charged by a term: gone ones, those that lie. -/
def cW (x : Q4) (y : Lt) : Int := y.n * (wks y.i y.d x.b * x.a + if y.o = 2 then x.c else 0)
def cH (D : Int) (x : Q4) (y : Lt) : Int := y.n * (wks y.i D x.b * x.a)
def sW (x : Q4) (l : List Lt) : Int := (l.map (cW x)).sum
def sH (D : Int) (x : Q4) (l : List Lt) : Int := (l.map (cH D x)).sum
theorem sW_cons (x : Q4) (y : Lt) (l : List Lt) : sW x (y :: l) = cW x y + sW x l := by simp [sW]
theorem sH_cons (D : Int) (x : Q4) (y : Lt) (l : List Lt) : sH D x (y :: l) = cH D x y + sH D x l := by simp [sH]
theorem sW_app (x : Q4) (a b : List Lt) : sW x (a ++ b) = sW x a + sW x b := by simp [sW]
theorem sH_app (D : Int) (x : Q4) (a b : List Lt) : sH D x (a ++ b) = sH D x a + sH D x b := by simp [sH]
theorem chgL_W {D : Int} {x : Q4} : ∀ {W : List Lt}, (∀ y ∈ W, okW y) → sumC (chgL D x W) = sW x W
  | [], _ => rfl
  | y :: W, h => by
    have e : chgL D x (y :: W) = chg D x y :: chgL D x W := rfl
    have ho := (h y (List.mem_cons_self ..)).2.1
    have hd : endD y D = y.d := by unfold endD; rw [if_neg (by omega)]
    rw [e, sumC_cons, sW_cons, chgL_W fun z hz => h z (List.mem_cons_of_mem _ hz)]
    unfold chg cW
    rw [hd]
theorem chgL_H {D E : Int} {x : Q4} : ∀ {W : List Lt}, (∀ y ∈ W, okH E y) → sumC (chgL D x W) = sH D x W
  | [], _ => rfl
  | y :: W, h => by
    have e : chgL D x (y :: W) = chg D x y :: chgL D x W := rfl
    have ho := (h y (List.mem_cons_self ..)).2.2
    have hd : endD y D = D := by unfold endD; rw [if_pos ho]
    rw [e, sumC_cons, sH_cons, chgL_H fun z hz => h z (List.mem_cons_of_mem _ hz)]
    unfold chg cH
    rw [hd, if_neg (by omega)]
    simp
theorem wks_mono {i a b l : Int} (h : a ≤ b) : wks i a l ≤ wks i b l := by
  unfold wks
  split <;> split <;> omega
theorem sH_mono {D E : Int} {x : Q4} (hx : 0 ≤ x.a) (h : D ≤ E) : ∀ {l : List Lt}, (∀ y ∈ l, 0 < y.n) → sH D x l ≤ sH E x l
  | [], _ => Int.le_refl _
  | y :: l, hl => by
    have h1 := sH_mono hx h fun z hz => hl z (List.mem_cons_of_mem _ hz)
    have h2 := hl y (List.mem_cons_self ..)
    have h3 : cH D x y ≤ cH E x y := Int.mul_le_mul_of_nonneg_left (Int.mul_le_mul_of_nonneg_right (wks_mono h) hx) (by omega)
    rw [sH_cons, sH_cons]
    omega
theorem take_cost {D kd : Int} {x : Q4} (hc : 0 ≤ x.c) : ∀ (hs : List Lt) (left : Int), (∀ y ∈ hs, 0 < y.n) → sH D x hs ≤ sW x (goTake D kd left hs).1 + sH D x (goTake D kd left hs).2
  | [], left, _ => by simp [goTake, sH, sW]
  | y :: ys, left, h => by
    have hy := h y (List.mem_cons_self ..)
    rw [goTake]
    split
    · simp [sW]
    · rename_i h0
      have hcc : 0 ≤ (if kd = 2 then x.c else 0) := by split <;> omega
      split
      · rw [sW_cons, sH_cons, sH_cons]
        have e : cH D x y = left * (wks y.i D x.b * x.a) + (y.n - left) * (wks y.i D x.b * x.a) := by
          unfold cH
          rw [← Int.add_mul]
          congr 1
          omega
        have e2 : cW x ⟨y.p, left, y.i, D, kd⟩ = left * (wks y.i D x.b * x.a) + left * (if kd = 2 then x.c else 0) := by
          unfold cW
          dsimp only
          rw [Int.mul_add]
        have e3 : cH D x ⟨y.p, y.n - left, y.i, y.d, y.o⟩ = (y.n - left) * (wks y.i D x.b * x.a) := rfl
        have h3 : 0 ≤ left * (if kd = 2 then x.c else 0) := Int.mul_nonneg (by omega) hcc
        have e4 : sW x [] = 0 := rfl
        omega
      · have ih := take_cost (D := D) (kd := kd) hc ys (left - y.n) fun z hz => h z (List.mem_cons_of_mem _ hz)
        dsimp only
        rw [sW_cons, sH_cons]
        have e2 : cW x ⟨y.p, y.n, y.i, D, kd⟩ = cH D x y + y.n * (if kd = 2 then x.c else 0) := by
          unfold cW cH
          dsimp only
          rw [Int.mul_add]
        have h3 : 0 ≤ y.n * (if kd = 2 then x.c else 0) := Int.mul_nonneg (by omega) hcc
        omega
/-- What a run is charged on a day. -/
def cost (D : Int) (x : Q4) (s : List Lt × List Lt) : Int := sW x s.1 + sH D x s.2
theorem step_cost {x : Q4} {p : ByteArray} (ht : okT x) {m : Mv} {s : List Lt × List Lt} (hm : 0 ≤ m.n) (hs : ∀ y ∈ s.2, 0 < y.n) : cost m.d x s ≤ cost m.d x (stepM p s m) := by
  unfold stepM
  split
  · split
    · unfold cost
      dsimp only
      rw [sH_app]
      have e : sH m.d x [⟨p, m.n, m.d, -1, -1⟩] = m.n * (wks m.d m.d x.b * x.a) := by
        rw [sH_cons]
        unfold cH
        simp [sH]
      have h1 : 0 ≤ m.n * (wks m.d m.d x.b * x.a) := Int.mul_nonneg hm (Int.mul_nonneg (by unfold wks; have := ht.2.1; split <;> omega) ht.1.1)
      omega
    · unfold cost
      dsimp only
      rw [sW_app]
      have := take_cost (D := m.d) (kd := m.k) ht.2.2.1 s.2 m.n hs
      omega
  · exact Int.le_refl _
theorem cost_mono {D E : Int} {x : Q4} (ht : okT x) (h : D ≤ E) {s : List Lt × List Lt} (hs : ∀ y ∈ s.2, 0 < y.n) : cost D x s ≤ cost E x s := by
  have := sH_mono ht.1.1 h hs
  unfold cost
  omega
/-- From a run to a later one. -/
theorem run_cost {t : List Q4} {l : List Mv} {x : Q4} (p : ByteArray) (ht : okT x) (h : mGo t [] l = 0) {E : Int} : ∀ (j k : Nat) (D : Int), k + j ≤ l.length → D ≤ E → (∀ (q : Nat) (y : Mv), k ≤ q → q < k + j → l[q]? = some y → D ≤ y.d ∧ y.d ≤ E) → cost D x (runM p (l.take k)) ≤ cost E x (runM p (l.take (k + j)))
  | 0, k, D, hk, hDE, _ => cost_mono ht hDE fun y hy => ((run_ok p h k (by omega)).2 y hy).1.1
  | j + 1, k, D, hk, hDE, hd => by
    obtain ⟨m, hx⟩ : ∃ m, l[k]? = some m := ⟨l[k], List.getElem?_eq_getElem (by omega)⟩
    obtain ⟨d1, d2⟩ := hd k m (Nat.le_refl _) (by omega) hx
    have hpos : ∀ y ∈ (runM p (l.take k)).2, 0 < y.n := fun y hy => ((run_ok p h k (by omega)).2 y hy).1.1
    have hm := inR_iff.1 (mE_zero (moves_each h hx)).2.2.1
    have s1 := cost_mono ht d1 hpos
    have s2 := step_cost (p := p) ht (m := m) (by omega) hpos
    rw [← runM_step hx] at s2
    have asc := (mGo_asc t l [] h).2
    have s3 := run_cost p ht h (E := E) j (k + 1) m.d (by omega) d2 fun q y hq1 hq2 hy => by
      refine ⟨?_, (hd q y (by omega) (by omega) hy).2⟩
      obtain ⟨l1, rfl⟩ := List.getElem?_eq_some_iff.1 hx
      obtain ⟨l2, rfl⟩ := List.getElem?_eq_some_iff.1 hy
      exact List.pairwise_iff_getElem.1 asc k q l1 l2 (by omega)
    rw [show k + (j + 1) = k + 1 + j by omega]
    omega
theorem acc_cost {t : List Q4} {l : List Mv} {x : Q4} (hg : Good t l) (day : Int) : sumC (chgL day x (lotsR x.s (upM l day))) = cost day x (runM x.s (upM l day)) := by
  obtain ⟨i1, i2⟩ := run_ok x.s (hg.up day).mg (upM l day).length (Nat.le_refl _)
  rw [List.take_length] at i1 i2
  rw [← lots_same ((hg.up day).st x.s), lotsP]
  have e : chgL day x ((runM x.s (upM l day)).1 ++ (runM x.s (upM l day)).2) = chgL day x (runM x.s (upM l day)).1 ++ chgL day x (runM x.s (upM l day)).2 := by simp [chgL]
  rw [e, sumC_app, chgL_W i1, chgL_H i2]
  rfl
theorem upN_mono {a b : Int} (h : a ≤ b) : ∀ l : List Mv, upN a l ≤ upN b l
  | [] => Nat.le_refl _
  | x :: r => by
    have := upN_mono h r
    rw [upN, upN]
    split <;> split <;> omega
/-- Behind the moves up to a day, days are later. -/
theorem upN_later {a : Int} : ∀ {l : List Mv}, (l.Pairwise fun x y => x.d ≤ y.d) → ∀ (q : Nat) (y : Mv), upN a l ≤ q → l[q]? = some y → a < y.d
  | [], _, q, y, _, h => by simp at h
  | x :: r, hp, q, y, hq, h => by
    rw [List.pairwise_cons] at hp
    rw [upN] at hq
    split at hq
    · rename_i hx
      cases q with
      | zero => simp at h; subst h; exact hx
      | succ q =>
        have h5 : x.d ≤ y.d := hp.1 y (List.mem_of_getElem? (i := q) (by simpa using h))
        omega
    · cases q with
      | zero => omega
      | succ q => exact upN_later (l := r) hp.2 q y (by omega) (by simpa using h)
theorem upN_before {a : Int} : ∀ {l : List Mv} (q : Nat) (y : Mv), q < upN a l → l[q]? = some y → y.d ≤ a
  | [], q, y, hq, h => by simp at h
  | x :: r, q, y, hq, h => by
    rw [upN] at hq
    split at hq
    · omega
    · cases q with
      | zero => simp at h; subst h; omega
      | succ q => exact upN_before (l := r) q y (by omega) (by simpa using h)
theorem term_mono {t : List Q4} {l : List Mv} {x : Q4} (hg : Good t l) (ht : okT x) {a b : Int} (h : a ≤ b) : sumC (chgL a x (lotsR x.s (upM l a))) ≤ sumC (chgL b x (lotsR x.s (upM l b))) := by
  rw [acc_cost hg, acc_cost hg]
  have hm := upN_mono h l
  have hb := upN_le b l
  have := run_cost (x := x) x.s ht hg.mg (E := b) (upN b l - upN a l) (upN a l) a (by omega) h fun q y h1 h2 hy =>
    ⟨Int.le_of_lt (upN_later (mGo_asc t l [] hg.mg).2 q y h1 hy), upN_before q y (by omega) hy⟩
  rwa [show upN a l + (upN b l - upN a l) = upN b l by omega] at this
theorem chgs_sum (t : List Q4) (l : List Mv) (day : Int) : sumC (chgs t l day) = (t.map fun x => sumC (chgL day x (lotsR x.s l))).sum := by
  induction t with
  | nil => rfl
  | cons x t ih =>
    have e : chgs (x :: t) l day = chgL day x (lotsR x.s l) ++ chgs t l day := by simp [chgs]
    rw [e, sumC_app, ih, List.map_cons, List.sum_cons]
theorem sum_le {f g : Q4 → Int} : ∀ {t : List Q4}, (∀ x ∈ t, f x ≤ g x) → (t.map f).sum ≤ (t.map g).sum
  | [], _ => Int.le_refl _
  | x :: t, h => by
    have h1 := sum_le fun y hy => h y (List.mem_cons_of_mem _ hy)
    have h2 := h x (List.mem_cons_self ..)
    simp only [List.map_cons, List.sum_cons]
    omega
/-- No invoice is negative. -/
theorem acc_mono {t : List Q4} {l : List Mv} (hg : Good t l) {a b : Int} (h : a ≤ b) : sumC (chgs t (upM l a) a) ≤ sumC (chgs t (upM l b) b) := by
  rw [chgs_sum, chgs_sum]
  exact sum_le fun x hx => term_mono hg (hg.term x hx) h

end Go.Proofs.Ytbeijeblbchglaa
