/- How slices and blocks of cells read in memory. No program is named here. -/
import Derived.WalkKit
import Derived.Deep.Draws
import Derived.Lib.Hide
namespace Go.Proofs.Ytmcefodfppdajaa
open Go.RowKit

/-- The slice value '.slice A n c' holds the cells xs (size cells an element), below block B. -/
structure Sl (w : World) (B size : Nat) (A : Option Addr) (n c : Nat) (xs : List Value) : Prop where
  len : xs.length = n * size
  cap : n ≤ c
  max : c ≤ 9223372036854775807
  cells : 0 < n → ∃ b o, A = some ⟨b, o, none⟩ ∧ b < B ∧ ∀ k u, xs[k]? = some u → w.cell? ⟨b, o + k, none⟩ = some u

section
variable {w w' : World} {B B' size n c : Nat} {A : Option Addr} {xs : List Value}
theorem Sl.keep (h : Sl w B size A n c xs) (hk : ∀ b o, b < B → w'.cell? ⟨b, o, none⟩ = w.cell? ⟨b, o, none⟩) (hB : B ≤ B') : Sl w' B' size A n c xs :=
  ⟨h.len, h.cap, h.max, fun hn => by
    obtain ⟨b, o, e, hb, hc⟩ := h.cells hn
    exact ⟨b, o, e, by omega, fun k u hu => (hk _ _ hb).trans (hc k u hu)⟩⟩
theorem Sl.below (h : Sl w B size A n c xs) {D : Nat} (hb : Below D w w') (hD : B ≤ D) (hB : B ≤ B') : Sl w' B' size A n c xs :=
  h.keep (fun b o hlt => hb.cell (p := ⟨b, o, none⟩) (by show b < D; omega)) hB
theorem Sl.mono (h : Sl w B size A n c xs) (hB : B ≤ B') : Sl w B' size A n c xs := h.keep (fun _ _ _ => rfl) hB
theorem Sl.nil_ (w : World) (B size : Nat) : Sl w B size none 0 0 [] := ⟨by simp, by omega, by omega, fun h => absurd h (by omega)⟩
theorem Sl.take {m : Nat} (h : Sl w B size A n c xs) (hm : m ≤ n) : Sl w B size A m c (xs.take (m * size)) := by
  refine ⟨?_, by have := h.cap; omega, h.max, fun h0 => ?_⟩
  · rw [List.length_take, h.len]; exact Nat.min_eq_left (Nat.mul_le_mul_right _ hm)
  · obtain ⟨b, o, e, hb, hc⟩ := h.cells (by omega)
    refine ⟨b, o, e, hb, fun k u hu => hc k u ?_⟩
    rw [List.getElem?_take] at hu
    split at hu
    · exact hu
    · cases hu
end

/-- What a walk needs behind a contract that ends in 'Below'. -/
theorem bcell {D : Nat} {w w' : World} (hb : Below D w w') : (∀ b o, b < D → w'.cell? ⟨b, o, none⟩ = w.cell? ⟨b, o, none⟩) ∧ (∀ b o, b < D → w'.frozen? ⟨b, o, none⟩ = w.frozen? ⟨b, o, none⟩) :=
  ⟨fun b o h => hb.cell (p := ⟨b, o, none⟩) h, fun b o h => hb.frozen (p := ⟨b, o, none⟩) h⟩
theorem Below.drewN {B : Nat} {a w : World} (h : Below B a w) (n : Nat) : Below B a (w.drewN n) := ⟨h.os, h.tape, h.output, h.size, h.block⟩

/-- Block g is the cells cs of element type t, and none is frozen. -/
def Bk (w : World) (g : Nat) (t : TypeId) (cs : Array Value) : Prop := w.heap[g]? = some (.cells cs t (0, 0))

section
variable {w w' : World} {g : Nat} {t : TypeId} {cs : Array Value}
theorem Bk.lt (h : Bk w g t cs) : g < w.heap.size := by
  rcases Nat.lt_or_ge g w.heap.size with hlt | hge
  · exact hlt
  · unfold Bk at h; rw [Array.getElem?_eq_none hge] at h; cases h
theorem Bk.cell (h : Bk w g t cs) (i : Nat) : w.cell? ⟨g, i, none⟩ = cs[i]? := cell_of_row w g i cs t (0, 0) h
theorem Bk.frozen (h : Bk w g t cs) (i : Nat) : w.frozen? ⟨g, i, none⟩ = false := by
  unfold Bk at h
  simp [World.frozen?, h]
theorem Bk.alloc_ (w : World) (t : TypeId) (cs : Array Value) : Bk (w.alloc (.cells cs t)) w.heap.size t cs := heap_alloc_new w _
theorem Bk.set_ (h : Bk w g t cs) (i : Nat) (u : Value) : Bk (w.setCell ⟨g, i, none⟩ u) g t (cs.setIfInBounds i u) := by
  unfold Bk at h ⊢
  simp [World.setCell, Array.getElem?_modify, h]
theorem Bk.other (h : Bk w g t cs) {p : Addr} (hp : g ≠ p.block) (u : Value) : Bk (w.setCell p u) g t cs := (Below.heap_setCell w p u g hp).trans h
theorem Bk.alloc (h : Bk w g t cs) (o : Obj) : Bk (w.alloc o) g t cs := (Below.heap_alloc w o g h.lt).trans h
theorem Bk.below {D : Nat} (h : Bk w g t cs) (hb : Below D w w') (hg : g < D) : Bk w' g t cs := (hb.block g hg).trans h
theorem Bk.drewN (h : Bk w g t cs) (n : Nat) : Bk (w.drewN n) g t cs := h
/-- A part of a block, read as cells. -/
theorem Bk.sl (h : Bk w g t cs) {B size n c : Nat} (hB : g < B) (hnc : n ≤ c) (hc : c ≤ 9223372036854775807) (hs : n * size ≤ cs.size) :
    Sl w B size (some ⟨g, 0, none⟩) n c (cs.toList.take (n * size)) := by
  refine ⟨by rw [List.length_take, Array.length_toList]; omega, hnc, hc, fun _ => ⟨g, 0, rfl, hB, fun k u hu => ?_⟩⟩
  rw [Nat.zero_add, h.cell]
  rw [List.getElem?_take] at hu
  split at hu
  · simpa using hu
  · cases hu
end

/-- w' is w but for what block g holds. -/
structure Only (g : Nat) (w w' : World) : Prop where
  os : w'.os = w.os
  tape : w'.tape = w.tape
  output : w'.output = w.output
  size : w'.heap.size = w.heap.size
  block : ∀ k, k ≠ g → w'.heap[k]? = w.heap[k]?

section
variable {g : Nat} {a b c w w' : World}
theorem Only.refl (g : Nat) (w : World) : Only g w w := ⟨rfl, rfl, rfl, rfl, fun _ _ => rfl⟩
theorem Only.trans (h : Only g a b) (k : Only g b c) : Only g a c :=
  ⟨k.os.trans h.os, k.tape.trans h.tape, k.output.trans h.output, k.size.trans h.size, fun i hi => (k.block i hi).trans (h.block i hi)⟩
theorem Only.drew (h : Only g a b) : Only g a b.drew := ⟨h.os, h.tape, h.output, h.size, h.block⟩
theorem Only.drewN (h : Only g a b) (n : Nat) : Only g a (b.drewN n) := ⟨h.os, h.tape, h.output, h.size, h.block⟩
theorem Only.setCell (h : Only g a b) (o : Nat) (u : Value) : Only g a (b.setCell ⟨g, o, none⟩ u) :=
  h.trans ⟨rfl, rfl, rfl, by simp [World.setCell], fun k hk => Below.heap_setCell _ _ _ _ hk⟩
theorem Only.below (h : Only g a b) {B : Nat} (hB : B ≤ g) : Below B a b := ⟨h.os, h.tape, h.output, by rw [h.size]; exact Nat.le_refl _, fun k hk => h.block k (by omega)⟩
theorem Only.bk (h : Only g a b) {k : Nat} {t : TypeId} {cs : Array Value} (hb : Bk a k t cs) (hk : k ≠ g) : Bk b k t cs := (h.block k hk).trans hb
end

theorem Below.step {D E : Nat} {w w1 w2 : World} (h : Below E w1 w2) (h1 : Below D w w1) (hD : D ≤ E) : Below D w w2 := h1.trans (h.mono hD)

theorem Bk.step {D g : Nat} {t : TypeId} {cs : Array Value} {w1 w2 : World} (hb : Below D w1 w2) (h : Bk w1 g t cs) (hg : g < D) : Bk w2 g t cs := h.below hb hg
theorem Bk.at_ {w : World} {g : Nat} {t : TypeId} {cs : Array Value} (hg : w.heap.size = g) : Bk (w.alloc (.cells cs t)) g t cs := by subst hg; exact Bk.alloc_ _ _ _
theorem Bk.drew {w : World} {g : Nat} {t : TypeId} {cs : Array Value} (h : Bk w g t cs) : Bk w.drew g t cs := h
theorem Bk.two {w : World} {g t : Nat} {a b : Value} (h : Bk w g t #[a, b]) : (w.cell? ⟨g, 0, none⟩ = some a ∧ w.cell? ⟨g, 1, none⟩ = some b) ∧ w.frozen? ⟨g, 0, none⟩ = false ∧ w.frozen? ⟨g, 1, none⟩ = false :=
  ⟨⟨by simpa using h.cell 0, by simpa using h.cell 1⟩, h.frozen 0, h.frozen 1⟩
theorem Bk.six {w : World} {g t : Nat} {a b c d e f : Value} (h : Bk w g t #[a, b, c, d, e, f]) :
    (w.cell? ⟨g, 0, none⟩ = some a ∧ w.cell? ⟨g, 1, none⟩ = some b ∧ w.cell? ⟨g, 2, none⟩ = some c ∧ w.cell? ⟨g, 3, none⟩ = some d ∧ w.cell? ⟨g, 4, none⟩ = some e ∧ w.cell? ⟨g, 5, none⟩ = some f) ∧
    w.frozen? ⟨g, 0, none⟩ = false ∧ w.frozen? ⟨g, 1, none⟩ = false ∧ w.frozen? ⟨g, 2, none⟩ = false ∧ w.frozen? ⟨g, 3, none⟩ = false ∧ w.frozen? ⟨g, 4, none⟩ = false ∧ w.frozen? ⟨g, 5, none⟩ = false :=
  ⟨⟨by simpa using h.cell 0, by simpa using h.cell 1, by simpa using h.cell 2, by simpa using h.cell 3, by simpa using h.cell 4, by simpa using h.cell 5⟩, h.frozen 0, h.frozen 1, h.frozen 2, h.frozen 3, h.frozen 4, h.frozen 5⟩

theorem Below.alloc2 {w w1 : World} (h : Below w.heap.size w w1) (o : Obj) : Below w.heap.size w (w1.alloc o) := h.alloc h.size o
theorem Below.step2 {w w1 w2 : World} (h : Below w1.heap.size w1 w2) (h1 : Below w.heap.size w w1) : Below w.heap.size w w2 := h1.trans (h.mono h1.size)

/-- Numbers as cells; points as cells. -/
def i64s (l : List Int) : List Value := l.map (Value.int .i64)
theorem i64s_length (l : List Int) : (i64s l).length = l.length := by simp [i64s]
theorem i64s_get? (l : List Int) (k : Nat) : (i64s l)[k]? = (l[k]?).map (Value.int .i64) := by simp [i64s]

/-- A slice value that reads as a list of numbers. -/
structure Nums (w : World) (B : Nat) (A : Option Addr) (n c : Nat) (l : List Int) : Prop where
  sl : Sl w B 1 A n c (i64s l)

section
variable {w w' : World} {B B' n c : Nat} {A : Option Addr} {l : List Int}
theorem Nums.len (h : Nums w B A n c l) : l.length = n := by have := h.sl.len; rw [i64s_length] at this; omega
theorem Nums.cap (h : Nums w B A n c l) : n ≤ c := h.sl.cap
theorem Nums.max (h : Nums w B A n c l) : c ≤ 9223372036854775807 := h.sl.max
theorem Nums.below (h : Nums w B A n c l) {D : Nat} (hb : Below D w w') (hD : B ≤ D) (hB : B ≤ B') : Nums w' B' A n c l := ⟨h.sl.below hb hD hB⟩
theorem Nums.mono (h : Nums w B A n c l) (hB : B ≤ B') : Nums w B' A n c l := ⟨h.sl.mono hB⟩
theorem Nums.at_ (h : Nums w B A n c l) {k : Nat} (hk : k < n) : ∃ b o x, A = some ⟨b, o, none⟩ ∧ b < B ∧ l[k]? = some x ∧ w.cell? ⟨b, o + k, none⟩ = some (.int .i64 x) := by
  obtain ⟨b, o, e, hb, hc⟩ := h.sl.cells (by omega)
  have hl : k < l.length := by have := h.len; omega
  exact ⟨b, o, l[k], e, hb, List.getElem?_eq_getElem hl, hc k _ (by rw [i64s_get?, List.getElem?_eq_getElem hl]; rfl)⟩
theorem Nums.of_bk {g : Nat} {t : TypeId} (h : Bk w g t (i64s l).toArray) (hB : g < B) (hn : l.length = n) (hc : n ≤ c) (hm : c ≤ 9223372036854775807) : Nums w B (some ⟨g, 0, none⟩) n c l := by
  refine ⟨?_⟩
  have := h.sl (B := B) (size := 1) (n := n) (c := c) hB hc hm (by simp [i64s, hn])
  rwa [Nat.mul_one, List.take_of_length_le (by simp [i64s, hn])] at this
end

/-- A list of numbers that has just been laid. -/
theorem Nums.new (w : World) (t : TypeId) (l : List Int) (n : Nat) (hn : l.length = n) (hm : n ≤ 9223372036854775807) (g : Nat) (hg : w.heap.size = g) : Nums (w.alloc (.cells (i64s l).toArray t)) (g + 1) (some ⟨g, 0, none⟩) n n l := by
  subst hg
  exact Nums.of_bk (Bk.alloc_ w t _) (by omega) hn (Nat.le_refl _) hm

theorem ret_int {k : IntKind} {a b : Int} (h : a = b) : Ending.returned (.int k a) = .returned (.int k b) := by rw [h]
theorem ret_bool {a b : Bool} (h : a = b) : Ending.returned (.bool a) = .returned (.bool b) := by rw [h]

end Go.Proofs.Ytmcefodfppdajaa
