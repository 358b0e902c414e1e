/- Chapter 6: demands in memory: rows of structs that hold a row of numbers each. -/
import Derived.Test.YtgljncfijcamhaaGreatDoorAns6
namespace Go.Proofs.YtgljncfijcamhaaGreatDoor
open Go.RowKit

structure Dem where
  st : Int
  fr : Int
  pl : List Int

/-- A demand with where its places lie. -/
abbrev DemS := Dem × (Option Addr × Nat)
def dcells : List DemS → List Value
  | [] => []
  | q :: l => .int .i64 q.1.st :: .int .i64 q.1.fr :: .slice q.2.1 q.1.pl.length q.2.2 :: dcells l
theorem dcells_length (l : List DemS) : (dcells l).length = l.length * 3 := by
  induction l with
  | nil => rfl
  | cons p l ih => simp only [dcells, List.length_cons, ih]; omega
theorem dcells_append (l m : List DemS) : dcells (l ++ m) = dcells l ++ dcells m := by
  induction l with
  | nil => rfl
  | cons p l ih => simp [dcells, ih]
theorem dcells_get (l : List DemS) (k : Nat) : (dcells l)[k * 3]? = (l[k]?).map (fun q => .int .i64 q.1.st) ∧ (dcells l)[k * 3 + 1]? = (l[k]?).map (fun q => .int .i64 q.1.fr) ∧ (dcells l)[k * 3 + 2]? = (l[k]?).map (fun q => .slice q.2.1 q.1.pl.length q.2.2) := by
  induction l generalizing k with
  | nil => simp [dcells]
  | cons p l ih =>
    match k with
    | 0 => simp [dcells]
    | k + 1 =>
      have := ih k
      rw [show (k + 1) * 3 = k * 3 + 1 + 1 + 1 from by omega]
      simpa [dcells] using this
theorem dcells_one (l : List DemS) : ∀ u ∈ dcells l, u.oneCell' = true := by
  induction l with
  | nil => intro u hu; cases hu
  | cons p l ih =>
    intro u hu
    simp only [dcells, List.mem_cons] at hu
    rcases hu with rfl | rfl | rfl | hu
    · rfl
    · rfl
    · rfl
    · exact ih u hu
/-- Where the places of demands lie, they read so. -/
def Laid (w : World) (B : Nat) (ls : List DemS) : Prop := ∀ q ∈ ls, Nums w B q.2.1 q.1.pl.length q.2.2 q.1.pl
/-- A slice value that reads as demands. -/
def Dems (w : World) (B : Nat) (A : Option Addr) (n c : Nat) (l : List Dem) : Prop := ∃ ls : List DemS, ls.map (·.1) = l ∧ Sl w B 3 A n c (dcells ls) ∧ Laid w B ls
section
variable {w w' : World} {B B' n c : Nat} {A : Option Addr} {l : List Dem}
theorem Laid.below {ls : List DemS} (h : Laid w B ls) {D : Nat} (hb : Below D w w') (hD : B ≤ D) (hB : B ≤ B') : Laid w' B' ls := fun q hq => (h q hq).below hb hD hB
theorem Dems.below (h : Dems w B A n c l) {D : Nat} (hb : Below D w w') (hD : B ≤ D) (hB : B ≤ B') : Dems w' B' A n c l := by
  obtain ⟨ls, h1, h2, h3⟩ := h
  exact ⟨ls, h1, h2.below hb hD hB, h3.below hb hD hB⟩
theorem Dems.len (h : Dems w B A n c l) : l.length = n := by
  obtain ⟨ls, rfl, h2, h3⟩ := h
  have := h2.len
  rw [dcells_length] at this
  rw [List.length_map]
  omega
theorem Dems.cap (h : Dems w B A n c l) : n ≤ c := by
  obtain ⟨ls, rfl, h2, h3⟩ := h
  exact h2.cap
theorem Dems.max (h : Dems w B A n c l) : c ≤ 9223372036854775807 := by
  obtain ⟨ls, rfl, h2, h3⟩ := h
  exact h2.max
theorem Dems.at_ (h : Dems w B A n c l) {k : Nat} (hk : k < n) : ∃ b o x P pc, A = some ⟨b, o, none⟩ ∧ b < B ∧ l[k]? = some x ∧ w.cell? ⟨b, o + k * 3, none⟩ = some (.int .i64 x.st) ∧ w.cell? ⟨b, o + k * 3 + 1, none⟩ = some (.int .i64 x.fr) ∧ w.cell? ⟨b, o + k * 3 + 2, none⟩ = some (.slice P x.pl.length pc) ∧ Nums w B P x.pl.length pc x.pl := by
  have hln := h.len
  obtain ⟨ls, rfl, h2, h3⟩ := h
  rw [List.length_map] at hln
  obtain ⟨b, o, e, hb, hc⟩ := h2.cells (by omega)
  have hl : k < ls.length := by omega
  have hg := dcells_get ls k
  rw [List.getElem?_eq_getElem hl] at hg
  exact ⟨b, o, ls[k].1, ls[k].2.1, ls[k].2.2, e, hb, by rw [List.getElem?_map, List.getElem?_eq_getElem hl]; rfl, hc _ _ hg.1, hc _ _ hg.2.1, hc _ _ hg.2.2, h3 _ (List.getElem_mem hl)⟩
end
section
variable {a b c : World} {r r' : Option Nat}
theorem grown_trans (h1 : a.grownBy b r) (h2 : b.grownBy c r') (hr : ∀ k, k < a.heap.size → some k ≠ r → some k ≠ r') : a.grownBy c r :=
  ⟨h2.os.trans h1.os, h2.tape.trans h1.tape, h2.output.trans h1.output, Nat.le_trans h1.size h2.size, fun k hk hne => (h2.block k (Nat.lt_of_lt_of_le hk h1.size) (hr k hk hne)).trans (h1.block k hk hne)⟩
theorem grown_below {D : Nat} (h : Below D a b) (hD : a.heap.size ≤ D) : a.grownBy b r :=
  ⟨h.os, h.tape, h.output, h.size, fun k hk _ => h.block k (by omega)⟩
theorem Nums.grown {B n q : Nat} {A : Option Addr} {l : List Int} (h : Nums a B A n q l) (hg : a.grownBy b r) (hB : B ≤ a.heap.size) (hne : ∀ g o, A = some ⟨g, o, none⟩ → some g ≠ r) : Nums b b.heap.size A n q l := by
  refine ⟨⟨h.sl.len, h.sl.cap, h.sl.max, fun hn => ?_⟩⟩
  obtain ⟨g, o, e, hb, hc⟩ := h.sl.cells hn
  exact ⟨g, o, e, by have := hg.size; omega, fun k u hu => hg.cell (hc k u hu) (hne g o e)⟩
end
/-- The places of demands lie so, whatever is written into row r. -/
def LaidBut (w : World) (r : Option Nat) (ls : List DemS) : Prop := ∀ w', w.grownBy w' r → Laid w' w'.heap.size ls
theorem LaidBut.nil (w : World) (r : Option Nat) : LaidBut w r [] := fun _ _ q hq => by cases hq
theorem LaidBut.now {w : World} {r : Option Nat} {ls : List DemS} (h : LaidBut w r ls) : Laid w w.heap.size ls := h w ⟨rfl, rfl, rfl, Nat.le_refl _, fun _ _ _ => rfl⟩
theorem LaidBut.snoc {w wa wx w1 : World} {v v1 : Value} {A : Option Addr} {c : Nat} {ls : List DemS} {d : Dem} {t : Nat} (h : LaidBut w v.ownBlock ls) (hva : ∀ k, v.ownBlock = some k → k < w.heap.size) (hwa : Below w.heap.size w wa)
    (hp : wa.ownsRow w.heap.size t 1 (.slice A d.pl.length c) d.pl.length (i64s d.pl)) (hax : Below wa.heap.size wa wx) (hg : wx.grownBy w1 v.ownBlock) (hv1 : v1.ownBlock = v.ownBlock ∨ v1.ownBlock = some wx.heap.size) :
    LaidBut w1 v1.ownBlock (ls ++ [(d, (A, c))]) := by
  intro w' hw'
  have hsz := hwa.size
  have hsx := hax.size
  have g1 : wa.grownBy w1 v.ownBlock := grown_trans (grown_below (r := v.ownBlock) hax (Nat.le_refl _)) hg (fun k hk hne => hne)
  have g2 : wa.grownBy w' v.ownBlock := grown_trans g1 hw' (fun k hk hne => by
    rcases hv1 with e | e
    · rw [e]; exact hne
    · rw [e]; intro e2; injection e2 with e2; omega)
  have g3 : w.grownBy w' v.ownBlock := grown_trans (grown_below (r := v.ownBlock) hwa (Nat.le_refl _)) g2 (fun k hk hne => hne)
  intro q hq
  rcases List.mem_append.1 hq with hq | hq
  · exact h w' g3 q hq
  · rw [List.mem_singleton] at hq
    subst hq
    obtain ⟨A', c', e, hs, -⟩ := Sl.of_own hp
    injection e with e1 e2 e3
    subst e1; subst e3
    refine (Nums.grown ⟨hs⟩ g2 (Nat.le_refl _) fun g o hgo hr => ?_)
    have h1 := hva g hr.symm
    have hgo : A = some ⟨g, o, none⟩ := hgo
    rcases hp.2 with ⟨e, -⟩ | ⟨g', cap', cur, e, hbg, -⟩
    · injection e with e1 e2 e3
      rw [hgo] at e1; cases e1
    · injection e with e1 e2 e3
      rw [hgo] at e1
      simp only [Option.some.injEq, Addr.mk.injEq, and_true] at e1
      omega
/-- The demands of one standard, as far as so many heights; of all standards before one. -/
def demRow (lv hs : List Int) (ev sk : Int) (l : List (Int × Int)) (k0 i : Nat) : Nat → List Dem
  | 0 => []
  | j + 1 => demRow lv hs ev sk l k0 i j ++ [⟨i, hs.getD j 0, ansTo lv ev sk i (hs.getD j 0) l k0⟩]
def demAll (lv hs : List Int) (ev sk : Int) (l : List (Int × Int)) (k0 : Nat) : Nat → List Dem
  | 0 => []
  | i + 1 => demAll lv hs ev sk l k0 i ++ demRow lv hs ev sk l k0 i hs.length
section
variable {lv hs : List Int} {ev sk : Int} {l : List (Int × Int)} {k0 i : Nat}
theorem demRow_len : ∀ j, (demRow lv hs ev sk l k0 i j).length = j
  | 0 => rfl
  | j + 1 => by simp [demRow, demRow_len j]
theorem demAll_len : ∀ i, (demAll lv hs ev sk l k0 i).length = i * hs.length
  | 0 => by simp [demAll]
  | i + 1 => by simp [demAll, demAll_len i, demRow_len, Nat.add_mul]
theorem demRow_mem {d : Dem} : ∀ {j : Nat}, j ≤ hs.length → (d ∈ demRow lv hs ev sk l k0 i j ↔ ∃ q, q < j ∧ d = ⟨i, hs.getD q 0, ansTo lv ev sk i (hs.getD q 0) l k0⟩)
  | 0, _ => by simp [demRow]
  | j + 1, hj => by
    simp only [demRow, List.mem_append, List.mem_singleton, demRow_mem (j := j) (by omega)]
    constructor
    · rintro (⟨q, hq, e⟩ | e)
      · exact ⟨q, by omega, e⟩
      · exact ⟨j, by omega, e⟩
    · rintro ⟨q, hq, e⟩
      rcases Nat.lt_or_ge q j with h | h
      · exact .inl ⟨q, h, e⟩
      · obtain rfl : q = j := by omega
        exact .inr e
theorem demAll_mem {d : Dem} : ∀ {n : Nat}, d ∈ demAll lv hs ev sk l k0 n ↔ ∃ i h, i < n ∧ h ∈ hs ∧ d = ⟨(i : Nat), h, ansTo lv ev sk (i : Nat) h l k0⟩
  | 0 => by simp [demAll]
  | n + 1 => by
    simp only [demAll, List.mem_append, demAll_mem (n := n), demRow_mem (Nat.le_refl _)]
    constructor
    · rintro (⟨i, h, hi, hh, e⟩ | ⟨q, hq, e⟩)
      · exact ⟨i, h, by omega, hh, e⟩
      · exact ⟨n, hs.getD q 0, by omega, by rw [List.getD_eq_getElem?_getD, List.getElem?_eq_getElem hq]; exact List.getElem_mem hq, e⟩
    · rintro ⟨i, h, hi, hh, e⟩
      rcases Nat.lt_or_ge i n with h1 | h1
      · exact .inl ⟨i, h, h1, hh, e⟩
      · obtain rfl : i = n := by omega
        obtain ⟨q, hq, e2⟩ := List.getElem_of_mem hh
        refine .inr ⟨q, hq, ?_⟩
        rw [List.getD_eq_getElem?_getD, List.getElem?_eq_getElem hq]
        simp only [Option.getD_some, e2]
        exact e
end

end Go.Proofs.YtgljncfijcamhaaGreatDoor
