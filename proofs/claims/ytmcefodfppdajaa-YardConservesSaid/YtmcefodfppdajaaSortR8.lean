/- Chapter 8, walks: slices.SortFunc with compareEntries, over a row that the call owns. -/
import Derived.Test.YtmcefodfppdajaaSort8
import Derived.Test.YtmcefodfppdajaaShelf
import Derived.Sort.OwnSorted
namespace Go.Proofs.Ytmcefodfppdajaa
open Go.RowKit Go.Lib Go.Sort

section
variable {α : Type} [Inhabited α] {f : α → List Value} {k : Nat}
theorem flatK_list (hf : ∀ x, (f x).length = k) (hk : 0 < k) (l : List α) : flatK f k l.toArray = (l.flatMap f).toArray := by
  apply Array.ext'
  refine List.ext_getElem? fun t => ?_
  have hlen := flat_length hf l
  by_cases ht : t < l.length * k
  · have hd : t / k < l.length := Nat.div_lt_of_lt_mul (by rw [Nat.mul_comm]; exact ht)
    have hm := Nat.mod_lt t hk
    have h1 : (flatK f k l.toArray)[t]? = some (f l.toArray[t / k]!)[t % k]! := by
      have h0 := get_flatK f k l.toArray t (by simpa using ht)
      have hs : t < (flatK f k l.toArray).size := by simpa using ht
      rw [getElem!_pos _ t hs] at h0
      rw [Array.getElem?_eq_getElem hs, h0]
    have h2 := flat_get hf (List.getElem?_eq_getElem hd) hm
    rw [show t / k * k + t % k = t by rw [Nat.mul_comm]; exact Nat.div_add_mod t k] at h2
    rw [Array.getElem?_toList, h1]
    show _ = (l.flatMap f)[t]?
    rw [h2]
    have e : l.toArray[t / k]! = l[t / k] := by simp [hd]
    rw [e, List.getElem?_eq_getElem (by rw [hf]; exact hm), getElem!_pos _ _ (by rw [hf]; exact hm)]
  · rw [List.getElem?_eq_none (by simp; omega), List.getElem?_eq_none (by simp only []; omega)]
end
theorem holds_row {w : World} {g : Nat} {cur : Array Value} {e : TypeId} {xs : List Value} (hb : w.heap[g]? = some (.cells cur e (0, 0))) (ht : cur.toList.take xs.length = xs) : Holds id w g 0 xs.toArray := by
  intro j hj
  have hj' : j < xs.length := by simpa using hj
  refine ⟨?_, by simp [World.frozen?, hb]⟩
  have h1 : (cur.toList.take xs.length)[j]? = xs[j]? := by rw [ht]
  rw [List.getElem?_take_of_lt hj', Array.getElem?_toList] at h1
  simp only [World.cell?, hb, Nat.zero_add, Option.isSome_none, Bool.false_eq_true, if_false, h1]
  simp [hj']
theorem heap_row {w : World} {g n : Nat} {os : Array Obj} {cur : Array Value} {e : TypeId} (d : Array Value) (hb : w.heap[g]? = some (.cells cur e (0, 0))) :
    (grow (putRow id (Sort.ahead w n) g 0 d) os).heap[g]? = some (.cells (putCells id 0 d cur) e (0, 0)) := by
  have hg : g < w.heap.size := (Array.getElem?_eq_some_iff.1 hb).1
  rw [heap_grow_old _ _ (by simpa using hg)]
  simp [putRow, mapBlock, Sort.ahead, Array.getElem?_modify, hb, onCells]
theorem grown_row {w : World} {g n : Nat} {os : Array Obj} (d : Array Value) : w.grownBy (grow (putRow id (Sort.ahead w n) g 0 d) os) (some g) := by
  refine ⟨rfl, rfl, rfl, by simp, fun k hk hne => ?_⟩
  rw [heap_grow_old _ _ (by simpa using hk)]
  have : g ≠ k := fun e => hne (by rw [e])
  simp [putRow, mapBlock, Sort.ahead, Array.getElem?_modify, this]
theorem take_row (cur : Array Value) (xs : List Value) (h : xs.length ≤ cur.size) : (putCells id 0 xs.toArray cur).toList.take xs.length = xs := by
  apply List.ext_getElem?
  intro j
  by_cases hj : j < xs.length
  · rw [List.getElem?_take_of_lt hj, Array.getElem?_toList]
    simp [putCells, hj, show j < cur.size by omega]
  · rw [List.getElem?_take_eq_none (by omega), List.getElem?_eq_none (by omega)]
-- The order.
theorem cmpT_lt {a b : ByteArray} : cmpT a b < 0 ↔ ltS a b = true := by
  unfold cmpT
  cases h1 : ltS a b <;> cases h2 : ltS b a <;> simp
theorem cmpT_zero {a b : ByteArray} : cmpT a b = 0 ↔ a = b := by
  unfold cmpT
  constructor
  · intro h
    cases h1 : ltS a b with
    | true => simp [h1] at h
    | false =>
      cases h2 : ltS b a with
      | true => simp [h1, h2] at h
      | false => exact ltS_tri h1 h2
  · rintro rfl
    simp [ltS_irrefl]
theorem cmpN_lt {a b : Int} : cmpN a b < 0 ↔ a < b := by
  unfold cmpN
  split
  · simp [*]
  · split <;> simp [*]
theorem cmpN_zero {a b : Int} : cmpN a b = 0 ↔ a = b := by
  unfold cmpN
  split
  · simp; omega
  · split <;> simp <;> omega
theorem cmpE_lt (x y : Q4) : ltOf cmpE x y = ltK (keyQ x) (keyQ y) := by
  have h : cmpE x y < 0 ↔ ltK (keyQ x) (keyQ y) = true := by
    rw [ltK_iff]
    unfold cmpE keyQ
    dsimp only
    by_cases h1 : cmpT x.s y.s = 0
    · by_cases h2 : cmpN x.a y.a = 0
      · rw [or3_3 h1 h2, cmpN_lt]
        have e1 := cmpT_zero.1 h1
        have e2 := cmpN_zero.1 h2
        rw [e1, ltS_irrefl]
        simp [e2]
      · rw [or3_2 h1 h2, cmpN_lt]
        have e1 := cmpT_zero.1 h1
        have e2 : x.a ≠ y.a := fun e => h2 (cmpN_zero.2 e)
        rw [e1, ltS_irrefl]
        simp [e2]
    · rw [or3_1 h1, cmpT_lt]
      have e1 : x.s ≠ y.s := fun e => h1 (cmpT_zero.2 e)
      simp [e1]
  unfold ltOf
  rw [Bool.eq_iff_iff, decide_eq_true_iff]
  exact h
theorem cmpE_swo : SWO (ltOf cmpE) := by
  refine ⟨fun x => ?_, fun x y z h1 h2 => ?_, fun x y z h1 h2 => ?_⟩
  · rw [cmpE_lt, ltK_irrefl]
  · rw [cmpE_lt] at *
    exact ltK_trans h1 h2
  · rw [cmpE_lt] at *
    cases h : ltK (keyQ x) (keyQ z) with
    | false => rfl
    | true =>
      cases h3 : ltK (keyQ y) (keyQ x) with
      | true => rw [ltK_trans h3 h] at h2; cases h2
      | false =>
        have e := ltK_tri h1 h3
        rw [e] at h
        rw [h] at h2
        cases h2
instance : Inhabited Q4 := ⟨⟨default, 0, 0, 0⟩⟩
theorem sort_any {w : World} {base n : Nat} {v : Value} {l : List Q4} (h : w.ownsRow base 103 4 v n (l.flatMap Q4.cs)) (hl : l.length = n) (hn : n ≤ 1000000) :
    Calls Try.prog 83 #[v, .func (.func 84) #[] #[]] w fun e w' => e = .returned (.tuple #[]) ∧ ∃ l' : List Q4, l'.Perm l ∧ (l'.Pairwise fun a b => ltK (keyQ b) (keyQ a) = false) ∧ w'.ownsRow base 103 4 v n (l'.flatMap Q4.cs) ∧ w.grownBy w' v.ownBlock := by
  rcases h.2 with ⟨rfl, rfl⟩ | ⟨g, cap, cur, rfl, hbg, hh, hnc, hm, hs, hx⟩
  · refine (Try.slices_SortFunc_none none 0 _ w).mono ?_
    rintro e w' ⟨rfl, rfl⟩
    obtain rfl : l = [] := List.eq_nil_of_length_eq_zero hl
    exact ⟨rfl, [], List.Perm.refl _, List.Pairwise.nil, h, World.grownBy.refl _ _⟩
  · have hg : g < w.heap.size := (Array.getElem?_eq_some_iff.1 hh).1
    have hfl : (l.flatMap Q4.cs).length = n * 4 := by rw [flat_length Q4.wide, hl]
    have e1 : (Value.slice (some ⟨g, 0, none⟩) n cap) = .slice (some ⟨g, 0, none⟩) l.toArray.size cap := by simp [hl]
    have hH : HoldsK Q4.cs 4 w g 0 l.toArray := by
      unfold HoldsK
      rw [flatK_list Q4.wide (by omega)]
      exact holds_row hh (by rw [hfl]; exact hx)
    rw [e1]
    refine (Try.slices_SortFunc_four (α := Q4) Q4.cs Q4.wide Q4.one cmpE cmpE_swo 84 #[] g 0 cap l.toArray w (enters_of Try.func84 (by kernel_rfl) rfl) ?_ hH hg (by simp; omega)).mono ?_
    · intro m os dk _ x y
      exact compareEntries_any x y _
    · rintro e w' ⟨rfl, d', q, os, hp, hs2, rfl⟩
      obtain ⟨hp1, -, hp2⟩ := hp
      have hd' : d' = d'.toList.toArray := by simp
      have hperm : d'.toList.Perm l := by
        have q1 : d'.extract 0 l.toArray.size = d' := by rw [← hp1]; simp
        have q2 : l.toArray.extract 0 l.toArray.size = l.toArray := by simp
        rw [q1, q2] at hp2
        simpa using hp2
      have hlen : d'.toList.length = n := by rw [hperm.length_eq, hl]
      have hfl2 : (d'.toList.flatMap Q4.cs).length = n * 4 := by rw [flat_length Q4.wide, hlen]
      refine ⟨rfl, d'.toList, hperm, ?_, ?_, ?_⟩
      · rw [List.pairwise_iff_getElem]
        intro i j hi hj hij
        have := hs2 i j (Nat.zero_le _) hij (by rw [← hp1]; simpa using hj)
        rw [cmpE_lt] at this
        have hi' : i < d'.size := by simpa using hi
        have hj' : j < d'.size := by simpa using hj
        rw [getElem!_pos d' i hi', getElem!_pos d' j hj'] at this
        simpa using this
      · unfold sortWorldK putRowK
        rw [hd', flatK_list Q4.wide (by omega), ← hd', ← e1]
        refine ⟨hfl2, .inr ⟨g, cap, _, rfl, hbg, heap_row _ hh, hnc, hm, by simp [putCells, hs], ?_⟩⟩
        rw [← hfl2]
        refine take_row cur _ ?_
        rw [hfl2, hs]
        exact Nat.mul_le_mul_right 4 hnc
      · unfold sortWorldK putRowK
        exact grown_row _

end Go.Proofs.Ytmcefodfppdajaa
