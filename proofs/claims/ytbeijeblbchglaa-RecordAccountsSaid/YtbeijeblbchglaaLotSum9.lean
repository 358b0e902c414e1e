/- Chapter 9: the counts of the lots of a part add up to what was delivered. -/
import Derived.Test.YtbeijeblbchglaaRefLotsT9
namespace Go.Proofs.Ytbeijeblbchglaa

def psum (q : ByteArray) (L : List Lt) : Int := (L.map fun x => if eqS x.p q = true then x.n else 0).sum
theorem psum_cons (q : ByteArray) (x : Lt) (L : List Lt) : psum q (x :: L) = (if eqS x.p q = true then x.n else 0) + psum q L := by simp [psum]
theorem psum_app (q : ByteArray) (a b : List Lt) : psum q (a ++ b) = psum q a + psum q b := by simp [psum]
theorem psum_step {q : ByteArray} {L : List Lt} {k : Nat} {x : Lt} (hx : L[k]? = some x) : psum q (L.take (k + 1)) = psum q (L.take k) + if eqS x.p q = true then x.n else 0 := by
  rw [take_step hx, psum_app, psum_cons]
  simp [psum]
theorem psum_part {p q : ByteArray} : ∀ {L : List Lt}, (∀ x ∈ L, x.p = p) → psum q L = if eqS p q = true then nsum L else 0
  | [], _ => by simp [psum, nsum]
  | x :: L, h => by
    have e := h x (List.mem_cons_self ..)
    rw [psum_cons, psum_part fun y hy => h y (List.mem_cons_of_mem _ hy), nsum_cons, e]
    split <;> simp
theorem scanG_part (p : ByteArray) (f e i : Int) : ∀ (gs : List Mv) (w : Int), ∀ x ∈ scanG p f e i w gs, x.p = p
  | [], w, x, hx => by
    rw [scanG] at hx
    split at hx
    · obtain rfl := List.mem_singleton.1 hx
      rfl
    · cases hx
  | g :: r, w, x, hx => by
    rw [scanG] at hx
    rcases List.mem_append.1 hx with hx | hx
    · split at hx
      · obtain rfl := List.mem_singleton.1 hx
        rfl
      · cases hx
    · exact scanG_part p f e i r _ x hx
theorem refG_part (p : ByteArray) (w : Int) (gs : List Mv) : ∀ (hs : List Lt) (c : Int), ∀ x ∈ refG p w gs c hs, x.p = p
  | [], _, x, hx => by cases hx
  | y :: ys, c, x, hx => by
    rw [refG] at hx
    rcases List.mem_append.1 hx with hx | hx
    · exact scanG_part p _ _ _ gs w x hx
    · exact refG_part p w gs ys _ x hx
theorem lotsR_part (p : ByteArray) (l : List Mv) : ∀ x ∈ lotsR p l, x.p = p := by
  rw [lotsR, refL_dels]
  exact refG_part p 0 _ _ 0
theorem take_all (dy kd : Int) : ∀ (hs : List Lt) (left : Int), nsum (goTake dy kd left hs).1 + nsum (goTake dy kd left hs).2 = nsum hs
  | [], _ => by simp [goTake, nsum]
  | x :: xs, left => by
    rw [goTake]
    split
    · simp [nsum]
    · split
      · simp only [nsum_cons]
        simp [nsum]
        omega
      · have := take_all dy kd xs (left - x.n)
        simp only [nsum_cons]
        omega
theorem pays_all : ∀ (gs : List Mv) (hs : List Lt), nsum (pays gs hs).1 + nsum (pays gs hs).2 = nsum hs
  | [], hs => by simp [pays, nsum]
  | m :: r, hs => by
    have h1 := take_all m.d m.k hs m.n
    have h2 := pays_all r (goTake m.d m.k m.n hs).2
    rw [pays]
    simp only [nsum_app]
    omega
theorem dels_cnt (p : ByteArray) : ∀ l : List Mv, nsum (delsL p l) = cnt 0 l p
  | [] => by simp [delsL, nsum, cnt]
  | m :: r => by
    rw [cnt_cons]
    by_cases h : eqS m.p p = true ∧ m.k = 0
    · rw [dels_yes h, nsum_cons, dels_cnt p r, if_pos (by simp [h])]
    · rw [dels_no h, dels_cnt p r, if_neg (by simpa using h)]
      omega
theorem lotsR_sum {p : ByteArray} {l : List Mv} (h : stOk p l) : nsum (lotsR p l) = cnt 0 l p := by
  have e := runM_pays h l.length (Nat.le_refl _)
  rw [List.take_length] at e
  rw [← lots_same h, lotsP, e, nsum_app, pays_all, dels_cnt]
/-- The lots of all terms: those of a part that one term has. -/
theorem lotsT_psum {l : List Mv} (h : ∀ p, stOk p l) (q : ByteArray) : ∀ t : List Q4, psum q (lotsT t l) = (t.map fun x => if eqS x.s q = true then cnt 0 l q else 0).sum
  | [] => by simp [lotsT, psum]
  | x :: t => by
    have e : lotsT (x :: t) l = lotsR x.s l ++ lotsT t l := by simp [lotsT]
    rw [e, psum_app, lotsT_psum h q t, psum_part (lotsR_part x.s l), lotsR_sum (h x.s), List.map_cons, List.sum_cons]
    by_cases hq : eqS x.s q = true
    · rw [if_pos hq, if_pos hq, eqS_iff.1 hq]
    · rw [if_neg hq, if_neg hq]
theorem terms_apart {t : List Q4} (h : tGo [] t = 0) : ∀ k ≤ t.length, tGo (t.take k) (t.drop k) = 0
  | 0, _ => by simpa using h
  | k + 1, hk => by
    obtain ⟨m, hx⟩ : ∃ m, t[k]? = some m := ⟨t[k], List.getElem?_eq_getElem (by omega)⟩
    have ih := terms_apart h k (by omega)
    rw [drop_step hx, tGo] at ih
    split at ih
    · rw [take_step hx]; exact ih
    · rename_i he
      exact absurd ih he
theorem tE_new {t : List Q4} (h : tGo [] t = 0) {k : Nat} {x : Q4} (hx : t[k]? = some x) : hasT (t.take k) x.s = false := by
  have ih := terms_apart h k (Nat.le_of_lt (List.getElem?_eq_some_iff.1 hx).1)
  rw [drop_step hx, tGo] at ih
  have he : tE (t.take k) x = 0 := by
    split at ih
    · assumption
    · exact ih
  unfold tE at he
  split at he
  · split at he
    · cases he
    · rename_i h2
      simpa using h2
  · cases he

theorem hasT_false {t : List Q4} {p : ByteArray} (h : hasT t p = false) : ∀ y ∈ t, eqS y.s p = false := fun y hy => by
  unfold hasT at h
  have := List.any_eq_false.1 h y hy
  simpa using this
theorem map_zero {q : ByteArray} {v : Int} : ∀ {t : List Q4}, (∀ y ∈ t, eqS y.s q = false) → (t.map fun x => if eqS x.s q = true then v else 0).sum = 0
  | [], _ => rfl
  | y :: t, h => by
    rw [List.map_cons, List.sum_cons, map_zero fun z hz => h z (List.mem_cons_of_mem _ hz), h y (List.mem_cons_self ..)]
    rfl
/-- What the lots of a term's part add up to. -/
theorem lotsT_sum {t : List Q4} {l : List Mv} (h : ∀ p, stOk p l) (ht : tGo [] t = 0) {k : Nat} {x : Q4} (hx : t[k]? = some x) : psum x.s (lotsT t l) = cnt 0 l x.s := by
  have hlt := (List.getElem?_eq_some_iff.1 hx).1
  rw [lotsT_psum h]
  have e : t = t.take k ++ x :: t.drop (k + 1) := by rw [← drop_step hx, List.take_append_drop]
  have h1 := hasT_false (tE_new ht hx)
  have h2 : ∀ y ∈ t.drop (k + 1), eqS y.s x.s = false := fun y hy => by
    obtain ⟨j, hj, rfl⟩ := List.mem_iff_getElem.1 hy
    rw [List.length_drop] at hj
    have hy2 : t[k + 1 + j]? = some (t.drop (k + 1))[j] := by
      rw [← List.getElem?_drop]
      exact List.getElem?_eq_getElem _
    have h3 := hasT_false (tE_new ht hy2) x (List.mem_of_getElem? (i := k) (by rw [List.getElem?_take, if_pos (by omega)]; exact hx))
    rw [eqS_not] at h3 ⊢
    exact fun q => h3 q.symm
  have e2 : (t.map fun y => if eqS y.s x.s = true then cnt 0 l x.s else 0).sum = ((t.take k ++ x :: t.drop (k + 1)).map fun y => if eqS y.s x.s = true then cnt 0 l x.s else 0).sum := by rw [← e]
  rw [e2, List.map_append, List.sum_append, List.map_cons, List.sum_cons, map_zero h1, map_zero h2, if_pos (eqS_iff.2 rfl)]
  omega

end Go.Proofs.Ytbeijeblbchglaa
