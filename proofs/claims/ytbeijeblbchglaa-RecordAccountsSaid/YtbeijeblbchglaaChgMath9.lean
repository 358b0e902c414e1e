/- Chapter 9: the moves up to a day, the charges of lots. No program is named here. -/
import Derived.Test.YtbeijeblbchglaaLotSum9
import Derived.Test.YtbeijeblbchglaaWeeks9
namespace Go.Proofs.Ytbeijeblbchglaa

/-- How many moves there are up to a day. -/
def upN (day : Int) : List Mv → Nat
  | [] => 0
  | x :: r => if day < x.d then 0 else upN day r + 1
def upM (l : List Mv) (day : Int) : List Mv := l.take (upN day l)
theorem upN_le (day : Int) : ∀ l : List Mv, upN day l ≤ l.length
  | [] => Nat.le_refl _
  | x :: r => by
    rw [upN]
    split
    · exact Nat.zero_le _
    · have := upN_le day r
      simp only [List.length_cons]
      omega
theorem upN_stop {day : Int} {l : List Mv} {k : Nat} {x : Mv} (hx : l[k]? = some x) (h : upN day l = k + upN day (l.drop k)) (hd : day < x.d) : upN day l = k := by
  rw [h, drop_step hx, upN, if_pos hd]
  rfl
theorem upN_next {day : Int} {l : List Mv} {k : Nat} {x : Mv} (hx : l[k]? = some x) (h : upN day l = k + upN day (l.drop k)) (hd : ¬ day < x.d) : upN day l = k + 1 + upN day (l.drop (k + 1)) := by
  rw [h, drop_step hx, upN, if_neg hd]
  omega
theorem upN_end {day : Int} {l : List Mv} {k : Nat} (hk : l.length ≤ k) (h : upN day l = k + upN day (l.drop k)) : upN day l = k := by
  rw [h, List.drop_eq_nil_of_le hk]
  rfl
/-- Days of right moves ascend. -/
theorem mGo_asc (t : List Q4) : ∀ (l seen : List Mv), mGo t seen l = 0 → (∀ y ∈ l, lastD seen ≤ y.d) ∧ l.Pairwise fun a b => a.d ≤ b.d
  | [], _, _ => ⟨fun y hy => (by cases hy), List.Pairwise.nil⟩
  | x :: r, seen, h => by
    rw [mGo] at h
    split at h
    · rename_i he
      obtain ⟨f1, f2, f3, f4, f5, f6⟩ := mE_zero he
      obtain ⟨h1, h2⟩ := mGo_asc t r _ h
      have e : lastD (seen ++ [x]) = x.d := by simp [lastD]
      rw [e] at h1
      refine ⟨fun y hy => ?_, List.Pairwise.cons h1 h2⟩
      rcases List.mem_cons.1 hy with rfl | hy
      · omega
      · have := h1 y hy
        omega
    · rename_i he
      exact absurd h he
theorem mGo_take (t : List Q4) : ∀ (l seen : List Mv) (k : Nat), mGo t seen l = 0 → mGo t seen (l.take k) = 0
  | [], _, k, h => by simpa using h
  | x :: r, seen, 0, h => rfl
  | x :: r, seen, k + 1, h => by
    rw [mGo] at h
    rw [List.take_succ_cons, mGo]
    split at h
    · rename_i he
      rw [if_pos he]
      exact mGo_take t r _ k h
    · rename_i he
      exact absurd h he
theorem check_take {t : List Q4} {l : List Mv} (h : checkErr t l = 0) (k : Nat) : checkErr t (l.take k) = 0 := by
  unfold checkErr at h ⊢
  split at h
  · rename_i h1
    rw [if_pos h1]
    obtain ⟨h2, h3⟩ := moveErr_go h
    unfold moveErr
    rw [if_neg (by rw [List.length_take]; omega)]
    exact mGo_take t l [] k h3
  · rename_i h1
    exact absurd h h1
theorem filter_up (day : Int) : ∀ l : List Mv, (l.Pairwise fun a b => a.d ≤ b.d) → l.filter (fun x => decide (x.d ≤ day)) = upM l day
  | [], _ => rfl
  | x :: r, h => by
    rw [List.pairwise_cons] at h
    unfold upM
    rw [upN]
    by_cases hd : day < x.d
    · rw [if_pos hd, List.take_zero, List.filter_eq_nil_iff]
      intro y hy
      have : x.d ≤ y.d := by
        rcases List.mem_cons.1 hy with rfl | hy
        · exact Int.le_refl _
        · exact h.1 y hy
      simp
      omega
    · rw [if_neg hd, List.filter_cons, if_pos (by simp; omega), filter_up day r h.2]
      rfl
/-- What up to a day is there came up to it. -/
theorem upM_days (day : Int) : ∀ l : List Mv, ∀ x ∈ upM l day, x.d ≤ day
  | [], x, hx => by simp [upM] at hx
  | y :: r, x, hx => by
    unfold upM at hx
    rw [upN] at hx
    split at hx
    · simp at hx
    · rename_i hd
      rw [List.take_succ_cons] at hx
      rcases List.mem_cons.1 hx with rfl | hx
      · omega
      · exact upM_days day r x hx

/-- A lot as it may be: on hire by a day, or gone. -/
def okL (D : Int) (y : Lt) : Prop := (0 < y.n ∧ y.n ≤ 100000 ∧ 0 ≤ y.i) ∧ (y.o = -1 ∧ y.i ≤ D ∨ (y.o = 1 ∨ y.o = 2) ∧ y.i ≤ y.d ∧ y.d ≤ 20000)
def okH (D : Int) (y : Lt) : Prop := (0 < y.n ∧ y.n ≤ 100000 ∧ 0 ≤ y.i) ∧ y.i ≤ D ∧ y.o = -1
def okW (y : Lt) : Prop := (0 < y.n ∧ y.n ≤ 100000 ∧ 0 ≤ y.i) ∧ (y.o = 1 ∨ y.o = 2) ∧ y.i ≤ y.d ∧ y.d ≤ 20000
theorem take_ok {D dy kd : Int} (hD : D ≤ dy) (hd : dy ≤ 20000) (hk : kd = 1 ∨ kd = 2) : ∀ (hs : List Lt) (left : Int), (∀ x ∈ hs, okH D x) → (∀ y ∈ (goTake dy kd left hs).1, okW y) ∧ (∀ y ∈ (goTake dy kd left hs).2, okH dy y)
  | [], left, _ => by simp [goTake]
  | x :: xs, left, h => by
    have hx := h x (List.mem_cons_self ..)
    obtain ⟨⟨h1, h2, h3⟩, h4, h5⟩ := hx
    have hxs : ∀ y ∈ xs, okH D y := fun y hy => h y (List.mem_cons_of_mem _ hy)
    have up : ∀ y, okH D y → okH dy y := fun y hy => ⟨hy.1, by have := hy.2.1; omega, hy.2.2⟩
    rw [goTake]
    split
    · refine ⟨fun y hy => (by cases hy), fun y hy => up y (h y hy)⟩
    · split
      · refine ⟨fun y hy => ?_, fun y hy => ?_⟩
        · obtain rfl := List.mem_singleton.1 hy
          exact ⟨⟨by dsimp only; omega, by dsimp only; omega, h3⟩, hk, by dsimp only; omega, hd⟩
        · rcases List.mem_cons.1 hy with rfl | hy
          · exact ⟨⟨by dsimp only; omega, by dsimp only; omega, h3⟩, by dsimp only; omega, h5⟩
          · exact up y (hxs y hy)
      · obtain ⟨i1, i2⟩ := take_ok hD hd hk xs (left - x.n) hxs
        refine ⟨fun y hy => ?_, i2⟩
        rcases List.mem_cons.1 hy with rfl | hy
        · exact ⟨⟨h1, h2, h3⟩, hk, by dsimp only; omega, hd⟩
        · exact i1 y hy
theorem run_ok {t : List Q4} {l : List Mv} (p : ByteArray) (h : mGo t [] l = 0) : ∀ k ≤ l.length, (∀ y ∈ (runM p (l.take k)).1, okW y) ∧ (∀ y ∈ (runM p (l.take k)).2, okH (lastD (l.take k)) y)
  | 0, _ => by simp [runM]
  | k + 1, hk => by
    obtain ⟨m, hx⟩ : ∃ m, l[k]? = some m := ⟨l[k], List.getElem?_eq_getElem (by omega)⟩
    obtain ⟨i1, i2⟩ := run_ok p h k (by omega)
    obtain ⟨f1, f2, f3, f4, f5, f6⟩ := mE_zero (moves_each h hx)
    have g1 := dayB_iff.1 f1
    have g2 := inR_iff.1 f2
    have g3 := inR_iff.1 f3
    rw [runM_step hx, lastD_step hx, stepM]
    have up : ∀ y ∈ (runM p (l.take k)).2, okH m.d y := fun y hy => ⟨(i2 y hy).1, by have := (i2 y hy).2.1; omega, (i2 y hy).2.2⟩
    split
    · split
      · refine ⟨i1, fun y hy => ?_⟩
        rcases List.mem_append.1 hy with hy | hy
        · exact up y hy
        · obtain rfl := List.mem_singleton.1 hy
          exact ⟨⟨by dsimp only; omega, by dsimp only; omega, by dsimp only; omega⟩, Int.le_refl _, rfl⟩
      · obtain ⟨j1, j2⟩ := take_ok (D := lastD (l.take k)) (dy := m.d) (kd := m.k) (by omega) (by omega) (by omega) (runM p (l.take k)).2 m.n i2
        refine ⟨fun y hy => ?_, j2⟩
        rcases List.mem_append.1 hy with hy | hy
        · exact i1 y hy
        · exact j1 y hy
    · exact ⟨i1, up⟩
/-- The lots of right moves up to a day are as they may be. -/
theorem lots_ok9 {t : List Q4} {l : List Mv} {D : Int} (p : ByteArray) (h : mGo t [] l = 0) (hs : stOk p l) (hl : lastD l ≤ D) : ∀ y ∈ lotsR p l, okL D y := by
  obtain ⟨i1, i2⟩ := run_ok p h l.length (Nat.le_refl _)
  rw [List.take_length] at i1 i2
  rw [← lots_same hs, lotsP]
  intro y hy
  rcases List.mem_append.1 hy with hy | hy
  · exact ⟨(i1 y hy).1, .inr (i1 y hy).2⟩
  · exact ⟨(i2 y hy).1, .inl ⟨(i2 y hy).2.2, by have := (i2 y hy).2.1; omega⟩⟩
theorem last_le {l : List Mv} {D : Int} (h0 : 0 ≤ D) (h : ∀ x ∈ l, x.d ≤ D) : lastD l ≤ D := by
  unfold lastD
  cases e : l.getLast? with
  | none => simpa using h0
  | some y => simpa using h y (List.mem_of_getLast? e)

/-- The charge for a lot. -/
def endD (y : Lt) (day : Int) : Int := if y.o = -1 then day else y.d
def chg (day : Int) (x : Q4) (y : Lt) : Q4 := ⟨y.p, y.n, wks y.i (endD y day) x.b, y.n * (wks y.i (endD y day) x.b * x.a + if y.o = 2 then x.c else 0)⟩
def chgL (day : Int) (x : Q4) (L : List Lt) : List Q4 := L.map (chg day x)
def chgs (t : List Q4) (l : List Mv) (day : Int) : List Q4 := t.flatMap fun x => chgL day x (lotsR x.s l)
theorem mul_bd {a b A B : Int} (ha : 0 ≤ a) (hA : a ≤ A) (hb : 0 ≤ b) (hB : b ≤ B) : 0 ≤ a * b ∧ a * b ≤ A * B :=
  ⟨Int.mul_nonneg ha hb, Int.mul_le_mul hA hB hb (by omega)⟩
/-- A term as it may be. -/
def okT (x : Q4) : Prop := (0 ≤ x.a ∧ x.a ≤ 1000000) ∧ (0 ≤ x.b ∧ x.b ≤ 520) ∧ 0 ≤ x.c ∧ x.c ≤ 1000000
theorem endD_ok {D : Int} {y : Lt} (h : okL D y) (hD : D ≤ 20000) : 0 ≤ y.i ∧ endD y D ≤ 20000 ∧ y.i ≤ endD y D := by
  obtain ⟨⟨_, _, h3⟩, h4⟩ := h
  unfold endD
  split
  · exact ⟨h3, hD, by omega⟩
  · exact ⟨h3, by omega, by omega⟩
theorem wks_bd {i o b : Int} (h : 0 ≤ i ∧ o ≤ 20000 ∧ i ≤ o) (hb : 0 ≤ b ∧ b ≤ 520) : 0 ≤ wks i o b ∧ wks i o b ≤ 2858 := by
  unfold wks
  split <;> omega
/-- The numbers that a charge is reckoned by. -/
theorem chg_bd {D : Int} {x : Q4} {y : Lt} (h : okL D y) (hD : D ≤ 20000) (ht : okT x) :
    (0 ≤ wks y.i (endD y D) x.b ∧ wks y.i (endD y D) x.b ≤ 2858) ∧ (0 ≤ wks y.i (endD y D) x.b * x.a ∧ wks y.i (endD y D) x.b * x.a ≤ 2858000000) ∧
    (0 ≤ (chg D x y).c ∧ (chg D x y).c ≤ 285900000000000) := by
  obtain ⟨h1, h2, h3⟩ := ht
  have hw := wks_bd (endD_ok h hD) h2
  have hm := mul_bd hw.1 hw.2 h1.1 h1.2
  refine ⟨hw, ⟨hm.1, by have := hm.2; omega⟩, ?_⟩
  have hp : 0 ≤ wks y.i (endD y D) x.b * x.a + (if y.o = 2 then x.c else 0) ∧ wks y.i (endD y D) x.b * x.a + (if y.o = 2 then x.c else 0) ≤ 2859000000 := by
    have := hm.1
    have := hm.2
    split <;> omega
  have := mul_bd (Int.le_of_lt h.1.1) h.1.2.1 hp.1 hp.2
  exact ⟨this.1, by have := this.2; show y.n * _ ≤ _; omega⟩
theorem chg_amt {D : Int} {x : Q4} {y : Lt} (h : okL D y) (hD : D ≤ 20000) (ht : okT x) : 0 ≤ (chg D x y).c ∧ (chg D x y).c ≤ 1000000000000000 := by
  have := (chg_bd h hD ht).2.2
  omega

end Go.Proofs.Ytbeijeblbchglaa
