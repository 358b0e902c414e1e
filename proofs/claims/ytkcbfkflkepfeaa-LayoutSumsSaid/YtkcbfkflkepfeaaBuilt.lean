/- A closing that is built from the table of least codes, part after part. No program is named here. -/
import Derived.Test.YtkcbfkflkepfeaaLeast
import Derived.Test.YtkcbfkflkepfeaaLenOf
namespace Go.Proofs.Ytkcbfkflkepfeaa
open Go.RowKit

theorem codeAt_full {ps : List Part} {p : Part} {N k : Nat} (hp : p.Fine) (hk : k ≤ N) : codeAt (tab ps N) p k = if (k : Int) < p.units then -1 else if tabK ps (k - p.units.toNat) = -1 then -1 else tabK ps (k - p.units.toNat) + p.code := by
  unfold codeAt
  split
  · rfl
  · have := hp.1.1
    rw [tab_get (ps := ps) (show k - p.units.toNat ≤ N by omega)]
    rfl
theorem tab_entry {ps : List Part} {N k : Nat} (hk : k ≤ N) : (tab ps N).getD k 0 = tabK ps k := tab_get hk
/-- What a part that fits leaves. -/
theorem fits_of {ps : List Part} {p : Part} {N k : Nat} (hp : p.Fine) (hk : k ≤ N) (hs : tabK ps k ≠ -1) (h : codeAt (tab ps N) p k = tabK ps k) : p.units ≤ k ∧ tabK ps (k - p.units.toNat) ≠ -1 ∧ tabK ps k = tabK ps (k - p.units.toNat) + p.code := by
  rw [codeAt_full hp hk] at h
  split at h
  · exact absurd h.symm hs
  · rename_i h1
    split at h
    · exact absurd h.symm hs
    · rename_i h2
      exact ⟨by omega, h2, h.symm⟩
theorem fits_some {ps : List Part} (hf : ∀ p ∈ ps, p.Fine) {N k : Nat} (hk1 : 1 ≤ k) (hk : k ≤ N) (hs : tabK ps k ≠ -1) : ∃ p ∈ ps, codeAt (tab ps N) p k = tabK ps k := by
  obtain ⟨p, hp, h1, h2, h3⟩ := tabK_step hk1 hs hf
  refine ⟨p, hp, ?_⟩
  rw [codeAt_full (hf p hp) hk, if_neg (by omega), if_neg h2, ← h3]

theorem odds_append (r : Int) (l m : List Int) : odds r (l ++ m) = odds r l + odds r m := by unfold odds; rw [List.countP_append]
theorem Sys.Ok.whole {s : Sys} (h : s.Ok) {x : Int} (hx : x ∈ s.all) : s.unit * (x.tdiv s.unit) = x := by
  have hu := h.unit_bd
  obtain ⟨q, rfl⟩ := h.dvd hx
  rw [Int.mul_tdiv_cancel_left _ (by omega)]

/-- What has been taken so far, with k units left. -/
structure Built (s : Sys) (N k : Nat) (lb lo : List Int) : Prop where
  a : ∀ x ∈ lb, x ∈ s.bays
  b : ∀ x ∈ lo, x ∈ s.boards
  len : lb.sum + lo.sum + s.unit * (k : Int) = s.unit * (N : Int)
  code : 10000 * ((odds s.reg lb : Nat) : Int) + 10000 * (lo.length : Int) + (lb.length : Int) + tabK s.parts k = tabK s.parts N
  some_ : tabK s.parts k ≠ -1
  few : lb.length + lo.length + k ≤ N
theorem Built.start {s : Sys} {N : Nat} (h : tabK s.parts N ≠ -1) : Built s N N [] [] := ⟨by simp, by simp, by simp, by simp [odds], h, by simp⟩

theorem left_units (u : Int) {k : Nat} {q : Int} (h0 : 0 ≤ q) (hk : q ≤ k) : u * ((k - q.toNat : Nat) : Int) = u * (k : Int) - u * q := by
  have : ((k - q.toNat : Nat) : Int) = (k : Int) - q := by omega
  rw [this, Int.mul_sub]
theorem Built.bay {s : Sys} {N k : Nat} {lb lo : List Int} {p : Part} (hs : s.Ok) (h : Built s N k lb lo) (hp : p ∈ s.parts) (hb : p.board = false) (hk : k ≤ N) (hc : codeAt (tab s.parts N) p k = tabK s.parts k) : Built s N (k - p.units.toNat) (lb ++ [p.len]) lo := by
  obtain ⟨h1, h2, h3⟩ := fits_of (hs.fine p hp) hk h.some_ hc
  have hfu := (hs.fine p hp).1
  have e := left_units s.unit (show 0 ≤ p.units by omega) h1
  unfold Sys.parts at hp
  rcases List.mem_append.1 hp with hp | hp
  · obtain ⟨x, hx, rfl⟩ := List.mem_map.1 hp
    have hw := hs.whole (x := x) (List.mem_append_left _ hx)
    have hl := h.len
    have hcd := h.code
    have hfw := h.few
    refine ⟨?_, h.b, ?_, ?_, h2, ?_⟩
    · intro y hy
      rcases List.mem_append.1 hy with hy | hy
      · exact h.a y hy
      · obtain rfl : y = x := by simpa [Sys.bay] using hy
        exact hx
    · rw [e]
      simp only [Sys.bay, List.sum_append, List.sum_cons, List.sum_nil]
      rw [hw]
      omega
    · rw [odds_append, List.length_append]
      have h4 : (odds s.reg [(s.bay x).len] : Nat) = if x = s.reg then 0 else 1 := by
        unfold odds Sys.bay
        by_cases hr : x = s.reg <;> simp [hr]
      have h5 : (s.bay x).code = if x = s.reg then 1 else 10001 := rfl
      rw [h4]
      simp only [List.length_singleton]
      by_cases hr : x = s.reg
      · rw [if_pos hr] at h5 ⊢
        omega
      · rw [if_neg hr] at h5 ⊢
        omega
    · rw [List.length_append, List.length_singleton]
      omega
  · obtain ⟨x, hx, rfl⟩ := List.mem_map.1 hp
    exact absurd hb (by simp [Sys.brd])
theorem Built.brd {s : Sys} {N k : Nat} {lb lo : List Int} {p : Part} (hs : s.Ok) (h : Built s N k lb lo) (hp : p ∈ s.parts) (hb : p.board = true) (hk : k ≤ N) (hc : codeAt (tab s.parts N) p k = tabK s.parts k) : Built s N (k - p.units.toNat) lb (lo ++ [p.len]) := by
  obtain ⟨h1, h2, h3⟩ := fits_of (hs.fine p hp) hk h.some_ hc
  have hfu := (hs.fine p hp).1
  have e := left_units s.unit (show 0 ≤ p.units by omega) h1
  unfold Sys.parts at hp
  rcases List.mem_append.1 hp with hp | hp
  · obtain ⟨x, hx, rfl⟩ := List.mem_map.1 hp
    exact absurd hb (by simp [Sys.bay])
  · obtain ⟨x, hx, rfl⟩ := List.mem_map.1 hp
    have hw := hs.whole (x := x) (List.mem_append_right _ hx)
    have hl := h.len
    have hcd := h.code
    have hfw := h.few
    refine ⟨h.a, ?_, ?_, ?_, h2, ?_⟩
    · intro y hy
      rcases List.mem_append.1 hy with hy | hy
      · exact h.b y hy
      · obtain rfl : y = x := by simpa [Sys.brd] using hy
        exact hx
    · rw [e]
      simp only [Sys.brd, List.sum_append, List.sum_cons, List.sum_nil]
      rw [hw]
      omega
    · rw [List.length_append]
      have h5 : (s.brd x).code = 10000 := rfl
      simp only [List.length_singleton]
      omega
    · rw [List.length_append, List.length_singleton]
      omega

theorem perm_sum {l l' : List Int} (h : l.Perm l') : l.sum = l'.sum := by
  induction h with
  | nil => rfl
  | cons x _ ih => simp [ih]
  | swap x y l => simp; omega
  | trans _ _ a b => exact a.trans b
theorem odds_perm {r : Int} {l l' : List Int} (h : l.Perm l') : odds r l = odds r l' := h.countP_eq _
theorem sumTo_take (l : List Int) : ∀ k, k ≤ l.length → sumTo l k = (l.take k).sum
  | 0, _ => by simp [sumTo]
  | k + 1, h => by
    have hk : k < l.length := by omega
    rw [List.take_succ_eq_append_getElem hk, List.sum_append, sumTo, sumTo_take l k (by omega)]
    simp [List.getD_eq_getElem?_getD, List.getElem?_eq_getElem hk]
theorem sumTo_sum (l : List Int) : sumTo l l.length = l.sum := by rw [sumTo_take l _ (Nat.le_refl _), List.take_length]
theorem fall_of {l : List Int} (h : l.Pairwise fun a b => b ≤ a) : fall l = true := by
  refine fall_iff.2 fun j hj => ?_
  rw [List.getD_eq_getElem?_getD, List.getD_eq_getElem?_getD, List.getElem?_eq_getElem (show j + 1 < l.length by omega), List.getElem?_eq_getElem (show j < l.length by omega)]
  exact List.pairwise_iff_getElem.1 h j (j + 1) (by omega) (by omega) (by omega)

/-- A closing of N units with the least code. -/
structure Closed (s : Sys) (N : Nat) (lb lo : List Int) : Prop where
  ok : CloOk s lb lo
  len : cloLen lb lo = s.unit * (N : Int)
  code : 10000 * ((lo.length + odds s.reg lb : Nat) : Int) + (lb.length : Int) = tabK s.parts N
  few : lb.length + lo.length ≤ N
theorem Built.done {s : Sys} {N : Nat} {lb lo lb' lo' : List Int} (he : s.err = 0) (hN : N ≤ 4000) (h : Built s N 0 lb lo) (ha : lb.Perm lb') (hb : lo.Perm lo') (fa : lb'.Pairwise fun a b => b ≤ a) (fb : lo'.Pairwise fun a b => b ≤ a) : Closed s N lb' lo' := by
  have la := ha.length_eq
  have lob := hb.length_eq
  have hf := h.few
  refine ⟨⟨he, by omega, by omega, ?_, ?_, fall_of fa, fall_of fb⟩, ?_, ?_, by omega⟩
  · exact List.all_eq_true.2 fun x hx => List.contains_iff_mem.2 (h.a x (ha.mem_iff.2 hx))
  · exact List.all_eq_true.2 fun x hx => List.contains_iff_mem.2 (h.b x (hb.mem_iff.2 hx))
  · have := h.len
    unfold cloLen
    rw [sumTo_sum, sumTo_sum, ← perm_sum ha, ← perm_sum hb]
    simpa using this
  · have := h.code
    rw [tabK_zero, odds_perm ha] at this
    omega

end Go.Proofs.Ytkcbfkflkepfeaa
