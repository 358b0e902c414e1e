/- Chapter 9: the lots of a part: the run over moves. No program is named here. -/
import Derived.Test.YtbeijeblbchglaaLotMath9
import Derived.Test.YtbeijeblbchglaaMoves9
namespace Go.Proofs.Ytbeijeblbchglaa

theorem filter_end {α : Type} (q : α → Bool) (l : List α) (m : α) : (l ++ [m]).filter q = l.filter q ++ if q m = true then [m] else [] := by
  rw [List.filter_append]
  by_cases h : q m = true
  · simp [h]
  · simp [h]
theorem goes_end (p : ByteArray) (l : List Mv) (m : Mv) : goesL p (l ++ [m]) = goesL p l ++ if eqS m.p p = true ∧ m.k ≠ 0 then [m] else [] := by
  rw [goesL, filter_end]
  simp [goesL]
theorem dels_end (p : ByteArray) (l : List Mv) (m : Mv) : delsL p (l ++ [m]) = delsL p l ++ if eqS m.p p = true ∧ m.k = 0 then [⟨p, m.n, m.d, -1, -1⟩] else [] := by
  rw [delsL, filter_end, List.map_append]
  by_cases h : eqS m.p p = true ∧ m.k = 0
  · simp [delsL, h]
  · rw [if_neg h, if_neg (by simpa using h)]
    simp [delsL]
theorem nsum_app (a b : List Lt) : nsum (a ++ b) = nsum a + nsum b := by simp [nsum]
theorem gsum_app (a b : List Mv) : gsum (a ++ b) = gsum a + gsum b := by simp [gsum]
theorem stock_end (p : ByteArray) (l : List Mv) (m : Mv) : stock (l ++ [m]) p = stock l p + if eqS m.p p = true then gn m else 0 := by
  simp [stock]
theorem stock_sums (p : ByteArray) : ∀ l : List Mv, stock l p = nsum (delsL p l) - gsum (goesL p l)
  | [] => by simp [stock, nsum, gsum, delsL, goesL]
  | m :: r => by
    have ih := stock_sums p r
    have e : stock (m :: r) p = (if eqS m.p p = true then gn m else 0) + stock r p := by simp [stock]
    rw [e]
    by_cases h : eqS m.p p = true
    · rw [if_pos h, gn]
      by_cases h0 : m.k = 0
      · rw [if_pos h0, dels_yes ⟨h, h0⟩, goes_no (fun q => q.2 h0), nsum_cons]
        dsimp only
        omega
      · rw [if_neg h0, dels_no (fun q => h0 q.2), goes_yes ⟨h, h0⟩, gsum_cons]
        omega
    · rw [if_neg h, dels_no (fun q => h q.1), goes_no (fun q => h q.1)]
      omega
/-- The moves behind which nothing goes that isn't there. -/
def stOk (p : ByteArray) (l : List Mv) : Prop := (∀ m ∈ l, 0 < m.n) ∧ ∀ k, 0 ≤ stock (l.take k) p
theorem stOk_take {p : ByteArray} {l : List Mv} (h : stOk p l) (k : Nat) : stOk p (l.take k) :=
  ⟨fun m hm => h.1 m (List.mem_of_mem_take hm), fun j => by rw [List.take_take]; exact h.2 _⟩
theorem goes_pos {p : ByteArray} {l : List Mv} (h : ∀ m ∈ l, 0 < m.n) : ∀ m ∈ goesL p l, 0 < m.n := fun m hm => h m (List.mem_filter.1 hm).1
theorem dels_lies {p : ByteArray} {l : List Mv} (h : ∀ m ∈ l, 0 < m.n) : ∀ x ∈ delsL p l, lies p x := fun x hx => by
  obtain ⟨m, hm, rfl⟩ := List.mem_map.1 hx
  exact ⟨h m (List.mem_filter.1 hm).1, rfl, rfl, rfl⟩
theorem runM_step {p : ByteArray} {l : List Mv} {k : Nat} {m : Mv} (hx : l[k]? = some m) : runM p (l.take (k + 1)) = stepM p (runM p (l.take k)) m := by
  rw [take_step hx, runM, List.foldl_append]
  rfl
/-- The run, by prefix: what came and what went, paid. -/
theorem runM_pays {p : ByteArray} {l : List Mv} (h : stOk p l) : ∀ k ≤ l.length, runM p (l.take k) = pays (goesL p (l.take k)) (delsL p (l.take k))
  | 0, _ => by simp [runM, goesL, delsL, pays]
  | k + 1, hk => by
    obtain ⟨m, hx⟩ : ∃ m, l[k]? = some m := ⟨l[k], List.getElem?_eq_getElem (by omega)⟩
    have hm : m ∈ l := List.mem_of_getElem? hx
    have ih := runM_pays h k (by omega)
    have hs := h.2 (k + 1)
    have hs0 := h.2 k
    have ho := stOk_take h k
    rw [runM_step hx, ih, take_step hx, goes_end, dels_end, stepM]
    by_cases he : eqS m.p p = true
    · rw [if_pos he]
      by_cases h0 : m.k = 0
      · rw [if_pos h0, if_neg (fun q => q.2 h0), if_pos ⟨he, h0⟩, List.append_nil, pays_app _ _ _ (goes_pos ho.1) (by rw [stock_sums] at hs0; omega)]
      · rw [if_neg h0, if_pos ⟨he, h0⟩, if_neg (fun q => h0 q.2), List.append_nil, pays_end]
    · rw [if_neg he, if_neg (fun q => he q.1), if_neg (fun q => he q.1), List.append_nil, List.append_nil]
theorem pays_sum : ∀ (gs : List Mv) (hs : List Lt), (∀ g ∈ gs, 0 < g.n) → gsum gs ≤ nsum hs → nsum (pays gs hs).2 = nsum hs - gsum gs
  | [], hs, _, _ => by simp [pays, gsum]
  | m :: r, hs, hg, h => by
    have g1 := hg m (List.mem_cons_self ..)
    have hg' : ∀ y ∈ r, 0 < y.n := fun y hy => hg y (List.mem_cons_of_mem _ hy)
    have hr : 0 ≤ gsum r := by
      clear h hg
      induction r with
      | nil => simp [gsum]
      | cons y ys ih =>
        rw [gsum_cons]
        have := hg' y (List.mem_cons_self ..)
        have := ih fun z hz => hg' z (List.mem_cons_of_mem _ hz)
        omega
    rw [gsum_cons] at h
    rw [pays, gsum_cons]
    dsimp only
    have e := take_sum m.d m.k hs m.n (by omega) (by omega)
    rw [pays_sum r _ hg' (by omega), e]
    omega
theorem pays_lies {p : ByteArray} : ∀ (gs : List Mv) (hs : List Lt), (∀ x ∈ hs, lies p x) → ∀ x ∈ (pays gs hs).2, lies p x
  | [], _, h => h
  | m :: r, hs, h => by
    rw [pays]
    exact pays_lies r _ (take_lies p m.d m.k hs m.n h)
/-- What lies is what is on hire. -/
theorem runM_sum {p : ByteArray} {l : List Mv} (h : stOk p l) (k : Nat) (hk : k ≤ l.length) : nsum (runM p (l.take k)).2 = stock (l.take k) p := by
  have hs := h.2 k
  have ho := stOk_take h k
  rw [runM_pays h k hk, stock_sums] at *
  rw [pays_sum _ _ (goes_pos ho.1) (by omega)]
theorem runM_lies {p : ByteArray} {l : List Mv} (h : stOk p l) (k : Nat) (hk : k ≤ l.length) : ∀ x ∈ (runM p (l.take k)).2, lies p x := by
  rw [runM_pays h k hk]
  exact pays_lies _ _ (dels_lies (stOk_take h k).1)
/-- First in, first out is by marks. -/
theorem lots_same {p : ByteArray} {l : List Mv} (h : stOk p l) : lotsP p l = lotsR p l := by
  have e := runM_pays h l.length (Nat.le_refl _)
  rw [List.take_length] at e
  rw [lotsP, e, lotsR, refL_dels, refG_pays p _ _ _ 0 (Nat.le_refl _) (dels_lies h.1) (goes_pos h.1)]
/-- How many there are: no more than the moves, and one for each delivery. -/
theorem take_len (dy kd : Int) : ∀ (hs : List Lt) (left : Int), (goTake dy kd left hs).1.length + (goTake dy kd left hs).2.length ≤ hs.length + 1
  | [], _ => by simp [goTake]
  | x :: xs, left => by
    rw [goTake]
    split
    · simp
    · split
      · simp; omega
      · have := take_len dy kd xs (left - x.n)
        simp; omega
theorem runM_len (p : ByteArray) (l : List Mv) : ∀ k ≤ l.length, (runM p (l.take k)).1.length + (runM p (l.take k)).2.length ≤ k
  | 0, _ => by simp [runM]
  | k + 1, hk => by
    obtain ⟨m, hx⟩ : ∃ m, l[k]? = some m := ⟨l[k], List.getElem?_eq_getElem (by omega)⟩
    have ih := runM_len p l k (by omega)
    rw [runM_step hx, stepM]
    split
    · split
      · simp; omega
      · have := take_len m.d m.k (runM p (l.take k)).2 m.n
        simp only [List.length_append]
        omega
    · omega
/-- Moves that are right: each is, and nothing goes that isn't there. -/
theorem moves_go {t : List Q4} {l : List Mv} (h : mGo t [] l = 0) : ∀ k ≤ l.length, mGo t (l.take k) (l.drop k) = 0 ∧ bdM (l.take k) k
  | 0, _ => ⟨by simpa using h, fun q => by simp [stock]⟩
  | k + 1, hk => by
    obtain ⟨m, hx⟩ : ∃ m, l[k]? = some m := ⟨l[k], List.getElem?_eq_getElem (by omega)⟩
    obtain ⟨ih, hb⟩ := moves_go h k (by omega)
    rw [drop_step hx, mGo] at ih
    split at ih
    · rename_i he
      exact ⟨by rw [take_step hx]; exact ih, bdM_step hx hb he⟩
    · rename_i he
      exact absurd ih he
theorem moves_each {t : List Q4} {l : List Mv} (h : mGo t [] l = 0) {k : Nat} {m : Mv} (hx : l[k]? = some m) : mE t (l.take k) m = 0 := by
  have ih := (moves_go h k (Nat.le_of_lt (List.getElem?_eq_some_iff.1 hx).1)).1
  rw [drop_step hx, mGo] at ih
  split at ih
  · assumption
  · exact ih
theorem moveErr_go {t : List Q4} {l : List Mv} (h : moveErr t l = 0) : l.length ≤ 300 ∧ mGo t [] l = 0 := by
  unfold moveErr at h
  split at h
  · cases h
  · exact ⟨by omega, h⟩
theorem stOk_of {t : List Q4} {l : List Mv} (h : moveErr t l = 0) (p : ByteArray) : stOk p l := by
  obtain ⟨-, hg⟩ := moveErr_go h
  refine ⟨fun m hm => ?_, fun k => ?_⟩
  · obtain ⟨k, hk, rfl⟩ := List.mem_iff_getElem.1 hm
    have := inR_iff.1 (mE_zero (moves_each hg (List.getElem?_eq_getElem hk))).2.2.1
    omega
  · by_cases hk : k ≤ l.length
    · exact ((moves_go hg k hk).2 p).1
    · rw [List.take_of_length_le (by omega)]
      have := ((moves_go hg l.length (Nat.le_refl _)).2 p).1
      rwa [List.take_length] at this

end Go.Proofs.Ytbeijeblbchglaa
