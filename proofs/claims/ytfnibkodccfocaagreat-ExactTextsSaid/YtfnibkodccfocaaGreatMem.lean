/- How slices of limbs, of ints and of cells read in memory. No program is named here. -/
import Derived.WalkKit
import Derived.Deep.Draws
import Derived.Lib.Hide
import Derived.Test.YtfnibkodccfocaaGreatNat
namespace Go.Proofs.YtfnibkodccfocaaGreat
open Go.RowKit

/-- The slice value '.slice A n c' holds the cells xs (size cells an element), below block B. -/
structure Sl (w : World) (B size : Nat) (A : Option Addr) (n c : Nat) (xs : List Value) : Prop where
  len : xs.length = n * size
  cap : n ≤ c
  max : c ≤ 9223372036854775807
  cells : 0 < n → ∃ b o, A = some ⟨b, o, none⟩ ∧ b < B ∧ ∀ k u, xs[k]? = some u → w.cell? ⟨b, o + k, none⟩ = some u

section
variable {w w' : World} {B B' size n c : Nat} {A : Option Addr} {xs : List Value}
theorem Sl.keep (h : Sl w B size A n c xs) (hk : ∀ b o, b < B → w'.cell? ⟨b, o, none⟩ = w.cell? ⟨b, o, none⟩) (hB : B ≤ B') : Sl w' B' size A n c xs :=
  ⟨h.len, h.cap, h.max, fun hn => by
    obtain ⟨b, o, e, hb, hc⟩ := h.cells hn
    exact ⟨b, o, e, by omega, fun k u hu => (hk _ _ hb).trans (hc k u hu)⟩⟩
theorem Sl.below (h : Sl w B size A n c xs) {D : Nat} (hb : Below D w w') (hD : B ≤ D) (hB : B ≤ B') : Sl w' B' size A n c xs :=
  h.keep (fun b o hlt => hb.cell (p := ⟨b, o, none⟩) (by show b < D; omega)) hB
theorem Sl.mono (h : Sl w B size A n c xs) (hB : B ≤ B') : Sl w B' size A n c xs := h.keep (fun _ _ _ => rfl) hB
theorem Sl.nil_ (w : World) (B size : Nat) : Sl w B size none 0 0 [] := ⟨by simp, by omega, by omega, fun h => absurd h (by omega)⟩
theorem Sl.take {m : Nat} (h : Sl w B size A n c xs) (hm : m ≤ n) : Sl w B size A m c (xs.take (m * size)) := by
  refine ⟨?_, by have := h.cap; omega, h.max, fun h0 => ?_⟩
  · rw [List.length_take, h.len]; exact Nat.min_eq_left (Nat.mul_le_mul_right _ hm)
  · obtain ⟨b, o, e, hb, hc⟩ := h.cells (by omega)
    refine ⟨b, o, e, hb, fun k u hu => hc k u ?_⟩
    rw [List.getElem?_take] at hu
    split at hu
    · exact hu
    · cases hu
end

/-- What a walk needs behind a contract that ends in 'Below'. -/
theorem bcell {D : Nat} {w w' : World} (hb : Below D w w') : (∀ b o, b < D → w'.cell? ⟨b, o, none⟩ = w.cell? ⟨b, o, none⟩) ∧ (∀ b o, b < D → w'.frozen? ⟨b, o, none⟩ = w.frozen? ⟨b, o, none⟩) :=
  ⟨fun b o h => hb.cell (p := ⟨b, o, none⟩) h, fun b o h => hb.frozen (p := ⟨b, o, none⟩) h⟩
theorem Below.drewN {B : Nat} {a w : World} (h : Below B a w) (n : Nat) : Below B a (w.drewN n) := ⟨h.os, h.tape, h.output, h.size, h.block⟩

/-- A limb as a value; limbs as cells. -/
def u32s (l : List Nat) : List Value := l.map fun (x : Nat) => Value.int .u32 (x : Int)
theorem u32s_length (l : List Nat) : (u32s l).length = l.length := by simp [u32s]
theorem u32s_get? (l : List Nat) (k : Nat) : (u32s l)[k]? = (l[k]?).map fun (x : Nat) => Value.int .u32 (x : Int) := by simp [u32s]
theorem u32s_take (l : List Nat) (k : Nat) : (u32s l).take k = u32s (l.take k) := by simp [u32s, List.map_take]
theorem u32s_append (l k : List Nat) : u32s (l ++ k) = u32s l ++ u32s k := by simp [u32s]
theorem u32s_one (l : List Nat) : ∀ u ∈ u32s l, u.oneCell' = true := by
  intro u hu; simp [u32s] at hu; obtain ⟨x, _, rfl⟩ := hu; rfl

/-- The slice value reads as the limbs l. -/
structure Lim (w : World) (B : Nat) (A : Option Addr) (n c : Nat) (l : List Nat) : Prop where
  sl : Sl w B 1 A n c (u32s l)
  bd : Bd l

section
variable {w w' : World} {B B' n c : Nat} {A : Option Addr} {l : List Nat}
theorem Lim.len (h : Lim w B A n c l) : l.length = n := by have := h.sl.len; rw [u32s_length] at this; omega
theorem Lim.cap (h : Lim w B A n c l) : n ≤ c := h.sl.cap
theorem Lim.max (h : Lim w B A n c l) : c ≤ 9223372036854775807 := h.sl.max
theorem Lim.below (h : Lim w B A n c l) {D : Nat} (hb : Below D w w') (hD : B ≤ D) (hB : B ≤ B') : Lim w' B' A n c l := ⟨h.sl.below hb hD hB, h.bd⟩
theorem Lim.keep (h : Lim w B A n c l) (hk : ∀ b o, b < B → w'.cell? ⟨b, o, none⟩ = w.cell? ⟨b, o, none⟩) (hB : B ≤ B') : Lim w' B' A n c l := ⟨h.sl.keep hk hB, h.bd⟩
theorem Lim.mono (h : Lim w B A n c l) (hB : B ≤ B') : Lim w B' A n c l := ⟨h.sl.mono hB, h.bd⟩
theorem Lim.nil_ (w : World) (B : Nat) : Lim w B none 0 0 [] := ⟨Sl.nil_ _ _ _, Bd.nil⟩
theorem Lim.take {m : Nat} (h : Lim w B A n c l) (hm : m ≤ n) : Lim w B A m c (l.take m) := by
  refine ⟨?_, h.bd.take m⟩
  have := h.sl.take hm
  rwa [Nat.mul_one, u32s_take] at this
/-- The address, where there is a limb. -/
theorem Lim.addr (h : Lim w B A n c l) (hn : 0 < n) : ∃ b o, A = some ⟨b, o, none⟩ ∧ b < B ∧ ∀ (k : Nat) (x : Nat), l[k]? = some x → w.cell? ⟨b, o + k, none⟩ = some (.int .u32 (x : Int)) := by
  obtain ⟨b, o, e, hb, hc⟩ := h.sl.cells hn
  refine ⟨b, o, e, hb, fun k x hx => hc k _ ?_⟩
  rw [u32s_get?, hx]; rfl
/-- One limb, under a name. -/
theorem Lim.at_ (h : Lim w B A n c l) {k : Nat} (hk : k < n) : ∃ b o x, A = some ⟨b, o, none⟩ ∧ b < B ∧ l[k]? = some x ∧ x < 4294967296 ∧ w.cell? ⟨b, o + k, none⟩ = some (.int .u32 (x : Int)) := by
  obtain ⟨b, o, e, hb, hc⟩ := h.addr (by omega)
  have hl : k < l.length := by have := h.len; omega
  exact ⟨b, o, l[k], e, hb, List.getElem?_eq_getElem hl, h.bd.get hl, hc k _ (List.getElem?_eq_getElem hl)⟩
end

theorem Lim.alloc {w : World} {B B' n c : Nat} {A : Option Addr} {l : List Nat} (h : Lim w B A n c l) (o : Obj) (hw : B ≤ w.heap.size) (hB : B ≤ B') : Lim (w.alloc o) B' A n c l :=
  h.below ((Below.refl B w).alloc hw o) (Nat.le_refl _) hB

/-- The number of a sign and a size. -/
def sg (s : Bool) (n : Nat) : Int := if s then -(n : Int) else (n : Int)
theorem sg_false (n : Nat) : sg false n = n := rfl
theorem sg_true (n : Nat) : sg true n = -(n : Int) := rfl

/-- v is an integer in normal form, and its value is z. -/
def IntAt (w : World) (B : Nat) (v : Value) (z : Int) : Prop :=
  ∃ s A n c l, v = .agg #[.bool s, .slice A n c] ∧ Lim w B A n c l ∧ Norm l ∧ z = sg s (val l) ∧ (s = true → 0 < n)
theorem IntAt.below {w w' : World} {B B' : Nat} {v : Value} {z : Int} (h : IntAt w B v z) {D : Nat} (hb : Below D w w') (hD : B ≤ D) (hB : B ≤ B') : IntAt w' B' v z := by
  obtain ⟨s, A, n, c, l, e, hl, hn, hz, hs⟩ := h
  exact ⟨s, A, n, c, l, e, hl.below hb hD hB, hn, hz, hs⟩
theorem IntAt.mono {w : World} {B B' : Nat} {v : Value} {z : Int} (h : IntAt w B v z) (hB : B ≤ B') : IntAt w B' v z := h.below (Below.refl B w) (Nat.le_refl _) hB

/-- Block g is the cells cs of element type t, and none is frozen. -/
def Bk (w : World) (g : Nat) (t : TypeId) (cs : Array Value) : Prop := w.heap[g]? = some (.cells cs t (0, 0))

section
variable {w w' : World} {g : Nat} {t : TypeId} {cs : Array Value}
theorem Bk.lt (h : Bk w g t cs) : g < w.heap.size := by
  rcases Nat.lt_or_ge g w.heap.size with hlt | hge
  · exact hlt
  · unfold Bk at h; rw [Array.getElem?_eq_none hge] at h; cases h
theorem Bk.cell (h : Bk w g t cs) (i : Nat) : w.cell? ⟨g, i, none⟩ = cs[i]? := cell_of_row w g i cs t (0, 0) h
theorem Bk.frozen (h : Bk w g t cs) (i : Nat) : w.frozen? ⟨g, i, none⟩ = false := by
  unfold Bk at h
  simp [World.frozen?, h]
theorem Bk.alloc_ (w : World) (t : TypeId) (cs : Array Value) : Bk (w.alloc (.cells cs t)) w.heap.size t cs := heap_alloc_new w _
theorem Bk.set_ (h : Bk w g t cs) (i : Nat) (u : Value) : Bk (w.setCell ⟨g, i, none⟩ u) g t (cs.setIfInBounds i u) := by
  unfold Bk at h ⊢
  simp [World.setCell, Array.getElem?_modify, h]
theorem Bk.other (h : Bk w g t cs) {p : Addr} (hp : g ≠ p.block) (u : Value) : Bk (w.setCell p u) g t cs := (Below.heap_setCell w p u g hp).trans h
theorem Bk.alloc (h : Bk w g t cs) (o : Obj) : Bk (w.alloc o) g t cs := (Below.heap_alloc w o g h.lt).trans h
theorem Bk.below {D : Nat} (h : Bk w g t cs) (hb : Below D w w') (hg : g < D) : Bk w' g t cs := (hb.block g hg).trans h
theorem Bk.drewN (h : Bk w g t cs) (n : Nat) : Bk (w.drewN n) g t cs := h
/-- A part of a block, read as cells. -/
theorem Bk.sl (h : Bk w g t cs) {B size n c : Nat} (hB : g < B) (hnc : n ≤ c) (hc : c ≤ 9223372036854775807) (hs : n * size ≤ cs.size) :
    Sl w B size (some ⟨g, 0, none⟩) n c (cs.toList.take (n * size)) := by
  refine ⟨by rw [List.length_take, Array.length_toList]; omega, hnc, hc, fun _ => ⟨g, 0, rfl, hB, fun k u hu => ?_⟩⟩
  rw [Nat.zero_add, h.cell]
  rw [List.getElem?_take] at hu
  split at hu
  · simpa using hu
  · cases hu
end

/-- Block g is the limbs O, all of them. -/
structure Buf (w : World) (g : Nat) (t : TypeId) (O : List Nat) : Prop where
  bk : Bk w g t (u32s O).toArray
  bd : Bd O

section
variable {w w' : World} {g : Nat} {t : TypeId} {O : List Nat}
theorem Buf.cell (h : Buf w g t O) {k : Nat} (hk : k < O.length) : ∃ x, O[k]? = some x ∧ w.cell? ⟨g, k, none⟩ = some (.int .u32 (x : Int)) := by
  refine ⟨O[k], List.getElem?_eq_getElem hk, ?_⟩
  rw [h.bk.cell, List.getElem?_toArray, u32s_get?, List.getElem?_eq_getElem hk]
  rfl
theorem Buf.frozen (h : Buf w g t O) (k : Nat) : w.frozen? ⟨g, k, none⟩ = false := h.bk.frozen k
theorem Buf.lt (h : Buf w g t O) : g < w.heap.size := h.bk.lt
theorem Buf.set_ (h : Buf w g t O) (k s : Nat) (hs : s < 4294967296) : Buf (w.setCell ⟨g, k, none⟩ (.int .u32 (s : Int))) g t (O.set k s) := by
  refine ⟨?_, h.bd.set k hs⟩
  have := h.bk.set_ k (.int .u32 (s : Int))
  have e : (u32s O).toArray.setIfInBounds k (.int .u32 (s : Int)) = (u32s (O.set k s)).toArray := by
    rw [List.setIfInBounds_toArray, u32s, u32s, List.map_set]
  rwa [e] at this
theorem Buf.other (h : Buf w g t O) {p : Addr} (hp : g ≠ p.block) (u : Value) : Buf (w.setCell p u) g t O := ⟨h.bk.other hp u, h.bd⟩
theorem Buf.alloc (h : Buf w g t O) (o : Obj) : Buf (w.alloc o) g t O := ⟨h.bk.alloc o, h.bd⟩
theorem Buf.below {D : Nat} (h : Buf w g t O) (hb : Below D w w') (hg : g < D) : Buf w' g t O := ⟨h.bk.below hb hg, h.bd⟩
theorem Buf.drewN (h : Buf w g t O) (n : Nat) : Buf (w.drewN n) g t O := ⟨h.bk, h.bd⟩
theorem Buf.drew (h : Buf w g t O) : Buf w.drew g t O := ⟨h.bk, h.bd⟩
theorem Buf.lim (h : Buf w g t O) {B n c : Nat} (hB : g < B) (hn : n ≤ c) (hc : c ≤ 9223372036854775807) (hO : n ≤ O.length) : Lim w B (some ⟨g, 0, none⟩) n c (O.take n) := by
  refine ⟨?_, h.bd.take n⟩
  have := h.bk.sl (B := B) (size := 1) (n := n) (c := c) hB hn hc (by simp [u32s]; omega)
  rw [Nat.mul_one] at this
  simpa [u32s, List.map_take] using this
end

theorem Lim.drew {w : World} {B n c : Nat} {A : Option Addr} {l : List Nat} (h : Lim w B A n c l) : Lim w.drew B A n c l := h.keep (fun _ _ _ => rfl) (Nat.le_refl _)
theorem Lim.drewN {w : World} {B n c : Nat} {A : Option Addr} {l : List Nat} (h : Lim w B A n c l) (k : Nat) : Lim (w.drewN k) B A n c l := h.keep (fun _ _ _ => rfl) (Nat.le_refl _)

/-- make([]uint32, n). -/
theorem make_u32 {P : Program} {t e : TypeId} {i : TypeInfo} (ht : P.underlying t = some (.slice e)) (hi : P.info? e = some i) (hz : i.zero = some (.int .u32 0)) (hs : i.size = 1) (hb : i.bytes = 4)
    (n : Nat) (z : Int) (e1 : z = (n : Int)) (hn : n ≤ 1099511627776) (w : World) :
    (Instr.makeSlice t (.int .i64 z) (.int .i64 z)).run P w = .ok (.slice (some ⟨w.heap.size, 0, none⟩) n n) (w.alloc (.cells (u32s (List.replicate n 0)).toArray e)) := by
  subst e1
  have hr := run_make (P := P) w t e i _ ht hi hz .i64 .i64 (n : Int) (n : Int) (by omega) (by omega) (by rw [hb]; omega) (by omega)
  simp only [Int.toNat_natCast, hs, Nat.mul_one] at hr
  rw [hr]
  congr 4
  apply Array.ext
  · simp [size_madeCells, u32s]
  · intro j h1 h2
    simp [madeCells, u32s, Value.cells, Nat.mod_one]

/-- What a call that makes a number leaves: new memory, limbs in normal form, their value. -/
def NatR (x : Nat) (w : World) (e : Ending) (w' : World) : Prop :=
  Below w.heap.size w w' ∧ ∃ A q c l, e = .returned (.slice A q c) ∧ Lim w' w'.heap.size A q c l ∧ Norm l ∧ val l = x

/-- w' is w but for what block g holds. -/
structure Only (g : Nat) (w w' : World) : Prop where
  os : w'.os = w.os
  tape : w'.tape = w.tape
  output : w'.output = w.output
  size : w'.heap.size = w.heap.size
  block : ∀ k, k ≠ g → w'.heap[k]? = w.heap[k]?

section
variable {g : Nat} {a b c w w' : World}
theorem Only.refl (g : Nat) (w : World) : Only g w w := ⟨rfl, rfl, rfl, rfl, fun _ _ => rfl⟩
theorem Only.trans (h : Only g a b) (k : Only g b c) : Only g a c :=
  ⟨k.os.trans h.os, k.tape.trans h.tape, k.output.trans h.output, k.size.trans h.size, fun i hi => (k.block i hi).trans (h.block i hi)⟩
theorem Only.drew (h : Only g a b) : Only g a b.drew := ⟨h.os, h.tape, h.output, h.size, h.block⟩
theorem Only.drewN (h : Only g a b) (n : Nat) : Only g a (b.drewN n) := ⟨h.os, h.tape, h.output, h.size, h.block⟩
theorem Only.setCell (h : Only g a b) (o : Nat) (u : Value) : Only g a (b.setCell ⟨g, o, none⟩ u) :=
  h.trans ⟨rfl, rfl, rfl, by simp [World.setCell], fun k hk => Below.heap_setCell _ _ _ _ hk⟩
theorem Only.below (h : Only g a b) {B : Nat} (hB : B ≤ g) : Below B a b := ⟨h.os, h.tape, h.output, by rw [h.size]; exact Nat.le_refl _, fun k hk => h.block k (by omega)⟩
theorem Only.bk (h : Only g a b) {k : Nat} {t : TypeId} {cs : Array Value} (hb : Bk a k t cs) (hk : k ≠ g) : Bk b k t cs := (h.block k hk).trans hb
theorem Only.buf (h : Only g a b) {k : Nat} {t : TypeId} {O : List Nat} (hb : Buf a k t O) (hk : k ≠ g) : Buf b k t O := ⟨h.bk hb.bk hk, hb.bd⟩
end

end Go.Proofs.YtfnibkodccfocaaGreat
