/- Several texts in one. -/
import Derived.WalkKit
import Derived.Deep.Draws
import Derived.Lib.Hide
import Derived.Test.YthlfhfkfjefidaaGreatProg
import Derived.Deep.RegionHeld3
import Derived.Deep.QuietTactic
import Derived.BigQuiet
/- Plain facts on lists of limbs: their value, their bounds, their normal form. No program is named here. -/
namespace Go.Proofs.YthlfhfkfjefidaaGreat
def val : List Nat → Nat
 | [] => 0
 | x :: r => x + 4294967296 * val r
def W (k : Nat) : Nat := 4294967296 ^ k
def Bd (l : List Nat) : Prop := ∀ x ∈ l, x < 4294967296
def Norm (l : List Nat) : Prop := l.getLast? ≠ some 0
theorem W_zero : W 0 = 1 := rfl
theorem W_succ (k : Nat) : W (k + 1) = 4294967296 * W k := by unfold W; rw [Nat.pow_succ, Nat.mul_comm]
theorem W_pos (k : Nat) : 0 < W k := Nat.pow_pos (by omega)
theorem W_add (a b : Nat) : W (a + b) = W a * W b := Nat.pow_add _ _ _
theorem W_mono {a b : Nat} (h : a ≤ b) : W a ≤ W b := Nat.pow_le_pow_right (by omega) h
theorem val_nil : val [] = 0 := rfl
theorem val_cons (x : Nat) (r : List Nat) : val (x :: r) = x + 4294967296 * val r := rfl
theorem val_append (a b : List Nat) : val (a ++ b) = val a + W a.length * val b := by
 induction a with
 | nil => simp [val, W_zero]
 | cons x r ih => simp only [List.cons_append, val, ih, List.length_cons, W_succ, Nat.mul_add, Nat.mul_assoc]; omega
theorem val_snoc (a : List Nat) (x : Nat) : val (a ++ [x]) = val a + W a.length * x := by rw [val_append]; simp [val]
theorem val_replicate (n : Nat) : val (List.replicate n 0) = 0 := by
 induction n with
 | zero => rfl
 | succ n ih => rw [List.replicate_succ, val, ih]
theorem Bd.nil : Bd [] := by intro x h; cases h
theorem Bd.cons {x : Nat} {r : List Nat} (h : x < 4294967296) (hr : Bd r) : Bd (x :: r) := by
 intro y hy; rcases List.mem_cons.1 hy with rfl | hy
 · exact h
 · exact hr y hy
theorem Bd.append {a b : List Nat} (ha : Bd a) (hb : Bd b) : Bd (a ++ b) := by
 intro x hx; rcases List.mem_append.1 hx with h | h
 · exact ha x h
 · exact hb x h
theorem Bd.take {a : List Nat} (h : Bd a) (k : Nat) : Bd (a.take k) := fun x hx => h x (List.mem_of_mem_take hx)
theorem Bd.drop {a : List Nat} (h : Bd a) (k : Nat) : Bd (a.drop k) := fun x hx => h x (List.mem_of_mem_drop hx)
theorem Bd.get {a : List Nat} (h : Bd a) {k : Nat} (hk : k < a.length) : a[k] < 4294967296 := h _ (List.getElem_mem hk)
theorem Bd.replicate (n : Nat) : Bd (List.replicate n 0) := by
 intro x hx; rw [(List.mem_replicate.1 hx).2]; omega
theorem Bd.set {a : List Nat} (h : Bd a) (k : Nat) {x : Nat} (hx : x < 4294967296) : Bd (a.set k x) := by
 intro y hy
 rcases List.mem_or_eq_of_mem_set hy with h' | h'
 · exact h y h'
 · omega
theorem val_lt {l : List Nat} (h : Bd l) : val l < W l.length := by
 induction l with
 | nil => simp [val, W_zero]
 | cons x r ih =>
   have hx : x < 4294967296 := h x (by simp)
   have hr := ih fun y hy => h y (by simp [hy])
   simp only [val, List.length_cons, W_succ]
   omega
theorem val_take_succ (l : List Nat) {k : Nat} (h : k < l.length) : val (l.take (k + 1)) = val (l.take k) + W k * l[k] := by
 rw [List.take_succ_eq_append_getElem h, val_snoc, List.length_take, Nat.min_eq_left (by omega)]
theorem val_take_drop (l : List Nat) (k : Nat) (h : k ≤ l.length) : val l = val (l.take k) + W k * val (l.drop k) := by
 conv => lhs; rw [← List.take_append_drop k l]
 rw [val_append, List.length_take, Nat.min_eq_left h]
theorem norm_nil : Norm [] := by simp [Norm]
theorem norm_pos {l : List Nat} (hn : Norm l) (hne : l ≠ []) : W (l.length - 1) ≤ val l := by
 have e : l = l.dropLast ++ [l.getLast hne] := (List.dropLast_concat_getLast hne).symm
 have h0 : l.getLast hne ≠ 0 := by
  intro h; apply hn; rw [List.getLast?_eq_some_getLast hne, h]
 rw [e, val_snoc]
 have hl : l.dropLast.length = l.length - 1 := List.length_dropLast
 rw [← e, hl]
 have : W (l.length - 1) * 1 ≤ W (l.length - 1) * l.getLast hne := Nat.mul_le_mul_left _ (by omega)
 omega
theorem norm_val_pos {l : List Nat} (hn : Norm l) (hne : l ≠ []) : 0 < val l := Nat.lt_of_lt_of_le (W_pos _) (norm_pos hn hne)
theorem norm_zero {l : List Nat} (hn : Norm l) : val l = 0 ↔ l = [] := by
 constructor
 · intro h; by_cases hne : l = []
   · exact hne
   · have := norm_val_pos hn hne; omega
 · rintro rfl; rfl
theorem norm_len_lt {a b : List Nat} (ha : Bd a) (hb : Norm b) (h : a.length < b.length) : val a < val b := by
 have hne : b ≠ [] := by intro e; subst e; simp at h
 have h1 := val_lt ha
 have h2 := norm_pos hb hne
 have h3 : W a.length ≤ W (b.length - 1) := W_mono (by omega)
 omega
theorem val_take_zeros {l : List Nat} {k : Nat} (h : ∀ j, k ≤ j → l.getD j 0 = 0) : val (l.take k) = val l := by
 by_cases hk : k ≤ l.length
 · rw [val_take_drop l k hk]
   have : l.drop k = List.replicate (l.length - k) 0 := by
    apply List.ext_getElem
    · simp
    · intro i h1 h2
      simp only [List.getElem_drop, List.getElem_replicate]
      have hh := h (k + i) (by omega)
      rw [List.getD_eq_getElem?_getD, List.getElem?_eq_getElem (by simp at h1; omega)] at hh
      exact hh
   rw [this, val_replicate]; simp
 · rw [List.take_of_length_le (by omega)]
theorem norm_take {l : List Nat} {k : Nat} (hk : k ≤ l.length) (h : k = 0 ∨ l.getD (k - 1) 0 ≠ 0) : Norm (l.take k) := by
 rcases Nat.eq_zero_or_pos k with rfl | hp
 · simp [Norm]
 · rcases h with h | h
   · omega
   · unfold Norm
     rw [List.getLast?_eq_getElem?, List.length_take, Nat.min_eq_left hk, List.getElem?_take, if_pos (by omega)]
     intro e
     apply h
     rw [List.getD_eq_getElem?_getD, e]; rfl
def cmpN (a b : Nat) : Int := if a < b then -1 else if a = b then 0 else 1
theorem cmpN_self (a : Nat) : cmpN a a = 0 := by simp [cmpN]
theorem cmpN_lt {a b : Nat} (h : a < b) : cmpN a b = -1 := by simp [cmpN, h]
theorem cmpN_gt {a b : Nat} (h : b < a) : cmpN a b = 1 := by unfold cmpN; rw [if_neg (by omega), if_neg (by omega)]
theorem val_lt_of_top {a b : List Nat} (ha : Bd a) {k : Nat} (hka : k < a.length) (hkb : k < b.length) (hl : a.length = b.length)
 (hd : a.drop (k + 1) = b.drop (k + 1)) (h : a[k] < b[k]) : val a < val b := by
 rw [val_take_drop a (k + 1) (by omega), val_take_drop b (k + 1) (by omega), hd, val_take_succ a hka, val_take_succ b hkb]
 have h1 := val_lt (ha.take k)
 rw [List.length_take, Nat.min_eq_left (by omega)] at h1
 have h2 : W k * (a[k] + 1) ≤ W k * b[k] := Nat.mul_le_mul_left _ (by omega)
 rw [Nat.mul_add] at h2
 omega
theorem val_set_take (O : List Nat) {k : Nat} (s : Nat) (hk : k < O.length) : val ((O.set k s).take (k + 1)) = val (O.take k) + W k * s := by
 have e : (O.set k s).take (k + 1) = O.take k ++ [s] := by
  rw [List.take_succ_eq_append_getElem (by simpa using hk), List.getElem_set_self, List.take_set_of_le (Nat.le_refl _)]
 rw [e, val_snoc, List.length_take, Nat.min_eq_left (by omega)]
theorem val_take_get (l : List Nat) {k x : Nat} (h : l[k]? = some x) : val (l.take (k + 1)) = val (l.take k) + W k * x := by
 obtain ⟨hk, rfl⟩ := List.getElem?_eq_some_iff.1 h
 exact val_take_succ l hk
theorem val_take_all {l : List Nat} {n : Nat} (h : l.length = n) : val (l.take n) = val l := by rw [List.take_of_length_le (by omega)]
theorem norm_len_le {l : List Nat} (hn : Norm l) {k : Nat} (h : val l < W k) : l.length ≤ k := by
 rcases Nat.lt_or_ge k l.length with h1 | h1
 · have hne : l ≠ [] := by rintro rfl; simp at h1
   have := norm_pos hn hne
   have h2 : W k ≤ W (l.length - 1) := W_mono (by omega)
   omega
 · exact h1
theorem add_col {k s r r' x y A B O : Nat} (h : O + W k * r = A + B) (hs : s + 4294967296 * r' = x + y + r) :
 (O + W k * s) + W (k + 1) * r' = (A + W k * x) + (B + W k * y) := by
 rw [W_succ, Nat.mul_comm 4294967296, Nat.mul_assoc]
 have h2 : W k * s + W k * (4294967296 * r') = W k * x + W k * y + W k * r := by
  rw [← Nat.mul_add, hs, Nat.mul_add, Nat.mul_add]
 omega
theorem sub_col {k s r r' x y A B O : Nat} (h1 : O + B = A + W k * r) (hs : s + y + r = x + 4294967296 * r') :
 (O + W k * s) + (B + W k * y) = (A + W k * x) + W (k + 1) * r' := by
 rw [W_succ, Nat.mul_comm 4294967296, Nat.mul_assoc]
 have h2 : W k * s + W k * y + W k * r = W k * x + W k * (4294967296 * r') := by
  rw [← Nat.mul_add, ← Nat.mul_add, hs, Nat.mul_add]
 omega
theorem mul_col {k s r r' x y l P V B : Nat} (h : P + W k * r = V + x * B) (hs : s + 4294967296 * r' = x * y + l + r) :
 (P + W k * s) + W (k + 1) * r' = (V + W k * l) + x * (B + W k * y) := by
 rw [W_succ, Nat.mul_comm 4294967296, Nat.mul_assoc]
 have h2 : W k * s + W k * (4294967296 * r') = W k * (x * y) + W k * l + W k * r := by
  rw [← Nat.mul_add, hs, Nat.mul_add, Nat.mul_add]
 rw [Nat.mul_add x, Nat.mul_left_comm x (W k) y]
 omega
theorem drop_get {O : List Nat} {q z : Nat} (h : O[q]? = some z) : O.drop q = z :: O.drop (q + 1) := by
 obtain ⟨hq, rfl⟩ := List.getElem?_eq_some_iff.1 h
 exact List.drop_eq_getElem_cons hq
theorem set_mid (a P r : List Nat) (z s : Nat) : (a ++ P ++ z :: r).set (a.length + P.length) s = a ++ (P ++ [s]) ++ r := by
 rw [List.set_append_right _ _ (by simp)]
 simp
theorem get_mid (a P r : List Nat) (z : Nat) : (a ++ P ++ z :: r)[a.length + P.length]? = some z := by
 rw [List.getElem?_append_right (by simp)]
 simp
theorem mul_le_two {x y : Nat} (hx : x < 4294967296) (hy : y < 4294967296) : x * y ≤ 18446744065119617025 := by
 have : x * y ≤ 4294967295 * 4294967295 := Nat.mul_le_mul (by omega) (by omega)
 omega
end Go.Proofs.YthlfhfkfjefidaaGreat
/- How slices of limbs, of ints and of cells read in memory. No program is named here. -/
namespace Go.Proofs.YthlfhfkfjefidaaGreat
open Go.RowKit
structure Sl (w : World) (B size : Nat) (A : Option Addr) (n c : Nat) (xs : List Value) : Prop where
 len : xs.length = n * size
 cap : n ≤ c
 max : c ≤ 9223372036854775807
 cells : 0 < n → ∃ b o, A = some ⟨b, o, none⟩ ∧ b < B ∧ ∀ k u, xs[k]? = some u → w.cell? ⟨b, o + k, none⟩ = some u
section
variable {w w' : World} {B B' size n c : Nat} {A : Option Addr} {xs : List Value}
theorem Sl.keep (h : Sl w B size A n c xs) (hk : ∀ b o, b < B → w'.cell? ⟨b, o, none⟩ = w.cell? ⟨b, o, none⟩) (hB : B ≤ B') : Sl w' B' size A n c xs :=
 ⟨h.len, h.cap, h.max, fun hn => by
   obtain ⟨b, o, e, hb, hc⟩ := h.cells hn
   exact ⟨b, o, e, by omega, fun k u hu => (hk _ _ hb).trans (hc k u hu)⟩⟩
theorem Sl.below (h : Sl w B size A n c xs) {D : Nat} (hb : Below D w w') (hD : B ≤ D) (hB : B ≤ B') : Sl w' B' size A n c xs :=
 h.keep (fun b o hlt => hb.cell (p := ⟨b, o, none⟩) (by show b < D; omega)) hB
theorem Sl.mono (h : Sl w B size A n c xs) (hB : B ≤ B') : Sl w B' size A n c xs := h.keep (fun _ _ _ => rfl) hB
theorem Sl.nil_ (w : World) (B size : Nat) : Sl w B size none 0 0 [] := ⟨by simp, by omega, by omega, fun h => absurd h (by omega)⟩
theorem Sl.take {m : Nat} (h : Sl w B size A n c xs) (hm : m ≤ n) : Sl w B size A m c (xs.take (m * size)) := by
 refine ⟨?_, by have := h.cap; omega, h.max, fun h0 => ?_⟩
 · rw [List.length_take, h.len]; exact Nat.min_eq_left (Nat.mul_le_mul_right _ hm)
 · obtain ⟨b, o, e, hb, hc⟩ := h.cells (by omega)
   refine ⟨b, o, e, hb, fun k u hu => hc k u ?_⟩
   rw [List.getElem?_take] at hu
   split at hu
   · exact hu
   · cases hu
end
theorem bcell {D : Nat} {w w' : World} (hb : Below D w w') : (∀ b o, b < D → w'.cell? ⟨b, o, none⟩ = w.cell? ⟨b, o, none⟩) ∧ (∀ b o, b < D → w'.frozen? ⟨b, o, none⟩ = w.frozen? ⟨b, o, none⟩) :=
 ⟨fun b o h => hb.cell (p := ⟨b, o, none⟩) h, fun b o h => hb.frozen (p := ⟨b, o, none⟩) h⟩
theorem Below.drewN {B : Nat} {a w : World} (h : Below B a w) (n : Nat) : Below B a (w.drewN n) := ⟨h.os, h.tape, h.output, h.size, h.block⟩
def u32s (l : List Nat) : List Value := l.map fun (x : Nat) => Value.int .u32 (x : Int)
theorem u32s_length (l : List Nat) : (u32s l).length = l.length := by simp [u32s]
theorem u32s_get? (l : List Nat) (k : Nat) : (u32s l)[k]? = (l[k]?).map fun (x : Nat) => Value.int .u32 (x : Int) := by simp [u32s]
theorem u32s_take (l : List Nat) (k : Nat) : (u32s l).take k = u32s (l.take k) := by simp [u32s, List.map_take]
theorem u32s_append (l k : List Nat) : u32s (l ++ k) = u32s l ++ u32s k := by simp [u32s]
theorem u32s_one (l : List Nat) : ∀ u ∈ u32s l, u.oneCell' = true := by
 intro u hu; simp [u32s] at hu; obtain ⟨x, _, rfl⟩ := hu; rfl
structure Lim (w : World) (B : Nat) (A : Option Addr) (n c : Nat) (l : List Nat) : Prop where
 sl : Sl w B 1 A n c (u32s l)
 bd : Bd l
section
variable {w w' : World} {B B' n c : Nat} {A : Option Addr} {l : List Nat}
theorem Lim.len (h : Lim w B A n c l) : l.length = n := by have := h.sl.len; rw [u32s_length] at this; omega
theorem Lim.cap (h : Lim w B A n c l) : n ≤ c := h.sl.cap
theorem Lim.max (h : Lim w B A n c l) : c ≤ 9223372036854775807 := h.sl.max
theorem Lim.below (h : Lim w B A n c l) {D : Nat} (hb : Below D w w') (hD : B ≤ D) (hB : B ≤ B') : Lim w' B' A n c l := ⟨h.sl.below hb hD hB, h.bd⟩
theorem Lim.keep (h : Lim w B A n c l) (hk : ∀ b o, b < B → w'.cell? ⟨b, o, none⟩ = w.cell? ⟨b, o, none⟩) (hB : B ≤ B') : Lim w' B' A n c l := ⟨h.sl.keep hk hB, h.bd⟩
theorem Lim.mono (h : Lim w B A n c l) (hB : B ≤ B') : Lim w B' A n c l := ⟨h.sl.mono hB, h.bd⟩
theorem Lim.nil_ (w : World) (B : Nat) : Lim w B none 0 0 [] := ⟨Sl.nil_ _ _ _, Bd.nil⟩
theorem Lim.take {m : Nat} (h : Lim w B A n c l) (hm : m ≤ n) : Lim w B A m c (l.take m) := by
 refine ⟨?_, h.bd.take m⟩
 have := h.sl.take hm
 rwa [Nat.mul_one, u32s_take] at this
theorem Lim.addr (h : Lim w B A n c l) (hn : 0 < n) : ∃ b o, A = some ⟨b, o, none⟩ ∧ b < B ∧ ∀ (k : Nat) (x : Nat), l[k]? = some x → w.cell? ⟨b, o + k, none⟩ = some (.int .u32 (x : Int)) := by
 obtain ⟨b, o, e, hb, hc⟩ := h.sl.cells hn
 refine ⟨b, o, e, hb, fun k x hx => hc k _ ?_⟩
 rw [u32s_get?, hx]; rfl
theorem Lim.at_ (h : Lim w B A n c l) {k : Nat} (hk : k < n) : ∃ b o x, A = some ⟨b, o, none⟩ ∧ b < B ∧ l[k]? = some x ∧ x < 4294967296 ∧ w.cell? ⟨b, o + k, none⟩ = some (.int .u32 (x : Int)) := by
 obtain ⟨b, o, e, hb, hc⟩ := h.addr (by omega)
 have hl : k < l.length := by have := h.len; omega
 exact ⟨b, o, l[k], e, hb, List.getElem?_eq_getElem hl, h.bd.get hl, hc k _ (List.getElem?_eq_getElem hl)⟩
end
theorem Lim.alloc {w : World} {B B' n c : Nat} {A : Option Addr} {l : List Nat} (h : Lim w B A n c l) (o : Obj) (hw : B ≤ w.heap.size) (hB : B ≤ B') : Lim (w.alloc o) B' A n c l :=
 h.below ((Below.refl B w).alloc hw o) (Nat.le_refl _) hB
def sg (s : Bool) (n : Nat) : Int := if s then -(n : Int) else (n : Int)
theorem sg_false (n : Nat) : sg false n = n := rfl
theorem sg_true (n : Nat) : sg true n = -(n : Int) := rfl
def IntAt (w : World) (B : Nat) (v : Value) (z : Int) : Prop :=
 ∃ s A n c l, v = .agg #[.bool s, .slice A n c] ∧ Lim w B A n c l ∧ Norm l ∧ z = sg s (val l) ∧ (s = true → 0 < n)
theorem IntAt.below {w w' : World} {B B' : Nat} {v : Value} {z : Int} (h : IntAt w B v z) {D : Nat} (hb : Below D w w') (hD : B ≤ D) (hB : B ≤ B') : IntAt w' B' v z := by
 obtain ⟨s, A, n, c, l, e, hl, hn, hz, hs⟩ := h
 exact ⟨s, A, n, c, l, e, hl.below hb hD hB, hn, hz, hs⟩
theorem IntAt.mono {w : World} {B B' : Nat} {v : Value} {z : Int} (h : IntAt w B v z) (hB : B ≤ B') : IntAt w B' v z := h.below (Below.refl B w) (Nat.le_refl _) hB
def Bk (w : World) (g : Nat) (t : TypeId) (cs : Array Value) : Prop := w.heap[g]? = some (.cells cs t (0, 0))
section
variable {w w' : World} {g : Nat} {t : TypeId} {cs : Array Value}
theorem Bk.lt (h : Bk w g t cs) : g < w.heap.size := by
 rcases Nat.lt_or_ge g w.heap.size with hlt | hge
 · exact hlt
 · unfold Bk at h; rw [Array.getElem?_eq_none hge] at h; cases h
theorem Bk.cell (h : Bk w g t cs) (i : Nat) : w.cell? ⟨g, i, none⟩ = cs[i]? := cell_of_row w g i cs t (0, 0) h
theorem Bk.frozen (h : Bk w g t cs) (i : Nat) : w.frozen? ⟨g, i, none⟩ = false := by
 unfold Bk at h
 simp [World.frozen?, h]
theorem Bk.alloc_ (w : World) (t : TypeId) (cs : Array Value) : Bk (w.alloc (.cells cs t)) w.heap.size t cs := heap_alloc_new w _
theorem Bk.set_ (h : Bk w g t cs) (i : Nat) (u : Value) : Bk (w.setCell ⟨g, i, none⟩ u) g t (cs.setIfInBounds i u) := by
 unfold Bk at h ⊢
 simp [World.setCell, Array.getElem?_modify, h]
theorem Bk.other (h : Bk w g t cs) {p : Addr} (hp : g ≠ p.block) (u : Value) : Bk (w.setCell p u) g t cs := (Below.heap_setCell w p u g hp).trans h
theorem Bk.alloc (h : Bk w g t cs) (o : Obj) : Bk (w.alloc o) g t cs := (Below.heap_alloc w o g h.lt).trans h
theorem Bk.below {D : Nat} (h : Bk w g t cs) (hb : Below D w w') (hg : g < D) : Bk w' g t cs := (hb.block g hg).trans h
theorem Bk.drewN (h : Bk w g t cs) (n : Nat) : Bk (w.drewN n) g t cs := h
theorem Bk.sl (h : Bk w g t cs) {B size n c : Nat} (hB : g < B) (hnc : n ≤ c) (hc : c ≤ 9223372036854775807) (hs : n * size ≤ cs.size) :
 Sl w B size (some ⟨g, 0, none⟩) n c (cs.toList.take (n * size)) := by
 refine ⟨by rw [List.length_take, Array.length_toList]; omega, hnc, hc, fun _ => ⟨g, 0, rfl, hB, fun k u hu => ?_⟩⟩
 rw [Nat.zero_add, h.cell]
 rw [List.getElem?_take] at hu
 split at hu
 · simpa using hu
 · cases hu
end
structure Buf (w : World) (g : Nat) (t : TypeId) (O : List Nat) : Prop where
 bk : Bk w g t (u32s O).toArray
 bd : Bd O
section
variable {w w' : World} {g : Nat} {t : TypeId} {O : List Nat}
theorem Buf.cell (h : Buf w g t O) {k : Nat} (hk : k < O.length) : ∃ x, O[k]? = some x ∧ w.cell? ⟨g, k, none⟩ = some (.int .u32 (x : Int)) := by
 refine ⟨O[k], List.getElem?_eq_getElem hk, ?_⟩
 rw [h.bk.cell, List.getElem?_toArray, u32s_get?, List.getElem?_eq_getElem hk]
 rfl
theorem Buf.frozen (h : Buf w g t O) (k : Nat) : w.frozen? ⟨g, k, none⟩ = false := h.bk.frozen k
theorem Buf.lt (h : Buf w g t O) : g < w.heap.size := h.bk.lt
theorem Buf.set_ (h : Buf w g t O) (k s : Nat) (hs : s < 4294967296) : Buf (w.setCell ⟨g, k, none⟩ (.int .u32 (s : Int))) g t (O.set k s) := by
 refine ⟨?_, h.bd.set k hs⟩
 have := h.bk.set_ k (.int .u32 (s : Int))
 have e : (u32s O).toArray.setIfInBounds k (.int .u32 (s : Int)) = (u32s (O.set k s)).toArray := by
  rw [List.setIfInBounds_toArray, u32s, u32s, List.map_set]
 rwa [e] at this
theorem Buf.other (h : Buf w g t O) {p : Addr} (hp : g ≠ p.block) (u : Value) : Buf (w.setCell p u) g t O := ⟨h.bk.other hp u, h.bd⟩
theorem Buf.alloc (h : Buf w g t O) (o : Obj) : Buf (w.alloc o) g t O := ⟨h.bk.alloc o, h.bd⟩
theorem Buf.below {D : Nat} (h : Buf w g t O) (hb : Below D w w') (hg : g < D) : Buf w' g t O := ⟨h.bk.below hb hg, h.bd⟩
theorem Buf.drewN (h : Buf w g t O) (n : Nat) : Buf (w.drewN n) g t O := ⟨h.bk, h.bd⟩
theorem Buf.drew (h : Buf w g t O) : Buf w.drew g t O := ⟨h.bk, h.bd⟩
theorem Buf.lim (h : Buf w g t O) {B n c : Nat} (hB : g < B) (hn : n ≤ c) (hc : c ≤ 9223372036854775807) (hO : n ≤ O.length) : Lim w B (some ⟨g, 0, none⟩) n c (O.take n) := by
 refine ⟨?_, h.bd.take n⟩
 have := h.bk.sl (B := B) (size := 1) (n := n) (c := c) hB hn hc (by simp [u32s]; omega)
 rw [Nat.mul_one] at this
 simpa [u32s, List.map_take] using this
end
theorem Lim.drew {w : World} {B n c : Nat} {A : Option Addr} {l : List Nat} (h : Lim w B A n c l) : Lim w.drew B A n c l := h.keep (fun _ _ _ => rfl) (Nat.le_refl _)
theorem Lim.drewN {w : World} {B n c : Nat} {A : Option Addr} {l : List Nat} (h : Lim w B A n c l) (k : Nat) : Lim (w.drewN k) B A n c l := h.keep (fun _ _ _ => rfl) (Nat.le_refl _)
theorem make_u32 {P : Program} {t e : TypeId} {i : TypeInfo} (ht : P.underlying t = some (.slice e)) (hi : P.info? e = some i) (hz : i.zero = some (.int .u32 0)) (hs : i.size = 1) (hb : i.bytes = 4)
 (n : Nat) (z : Int) (e1 : z = (n : Int)) (hn : n ≤ 1099511627776) (w : World) :
 (Instr.makeSlice t (.int .i64 z) (.int .i64 z)).run P w = .ok (.slice (some ⟨w.heap.size, 0, none⟩) n n) (w.alloc (.cells (u32s (List.replicate n 0)).toArray e)) := by
 subst e1
 have hr := run_make (P := P) w t e i _ ht hi hz .i64 .i64 (n : Int) (n : Int) (by omega) (by omega) (by rw [hb]; omega) (by omega)
 simp only [Int.toNat_natCast, hs, Nat.mul_one] at hr
 rw [hr]
 congr 4
 apply Array.ext
 · simp [size_madeCells, u32s]
 · intro j h1 h2
   simp [madeCells, u32s, Value.cells, Nat.mod_one]
def NatR (x : Nat) (w : World) (e : Ending) (w' : World) : Prop :=
 Below w.heap.size w w' ∧ ∃ A q c l, e = .returned (.slice A q c) ∧ Lim w' w'.heap.size A q c l ∧ Norm l ∧ val l = x
structure Only (g : Nat) (w w' : World) : Prop where
 os : w'.os = w.os
 tape : w'.tape = w.tape
 output : w'.output = w.output
 size : w'.heap.size = w.heap.size
 block : ∀ k, k ≠ g → w'.heap[k]? = w.heap[k]?
section
variable {g : Nat} {a b c w w' : World}
theorem Only.refl (g : Nat) (w : World) : Only g w w := ⟨rfl, rfl, rfl, rfl, fun _ _ => rfl⟩
theorem Only.trans (h : Only g a b) (k : Only g b c) : Only g a c :=
 ⟨k.os.trans h.os, k.tape.trans h.tape, k.output.trans h.output, k.size.trans h.size, fun i hi => (k.block i hi).trans (h.block i hi)⟩
theorem Only.drew (h : Only g a b) : Only g a b.drew := ⟨h.os, h.tape, h.output, h.size, h.block⟩
theorem Only.drewN (h : Only g a b) (n : Nat) : Only g a (b.drewN n) := ⟨h.os, h.tape, h.output, h.size, h.block⟩
theorem Only.setCell (h : Only g a b) (o : Nat) (u : Value) : Only g a (b.setCell ⟨g, o, none⟩ u) :=
 h.trans ⟨rfl, rfl, rfl, by simp [World.setCell], fun k hk => Below.heap_setCell _ _ _ _ hk⟩
theorem Only.below (h : Only g a b) {B : Nat} (hB : B ≤ g) : Below B a b := ⟨h.os, h.tape, h.output, by rw [h.size]; exact Nat.le_refl _, fun k hk => h.block k (by omega)⟩
theorem Only.bk (h : Only g a b) {k : Nat} {t : TypeId} {cs : Array Value} (hb : Bk a k t cs) (hk : k ≠ g) : Bk b k t cs := (h.block k hk).trans hb
theorem Only.buf (h : Only g a b) {k : Nat} {t : TypeId} {O : List Nat} (hb : Buf a k t O) (hk : k ≠ g) : Buf b k t O := ⟨h.bk hb.bk hk, hb.bd⟩
end
end Go.Proofs.YthlfhfkfjefidaaGreat
/- The walk of trim: the limbs without the zeros at their end, in the same memory. -/
namespace Go.Proofs.YthlfhfkfjefidaaGreat
open Go.RowKit
set_option maxHeartbeats 400000 in
theorem trim_any (A : Option Addr) (n c : Nat) (l : List Nat) (B : Nat) (w : World) (h : Lim w B A n c l) :
 Calls Tryz.prog 97 #[.slice A n c] w fun e w' => w = w' ∧ ∃ m, e = .returned (.slice A m c) ∧ m ≤ n ∧ val (l.take m) = val l ∧ Norm (l.take m) := by
 have hcap := h.cap
 have hmax := h.max
 have hlen := Lib.hid h.len
 go_enter Tryz.func97, Tryz.ntmps97
 go_wp2
 go_loop [3] (fun i => ∃ k : Nat, k ≤ n ∧ i = .int .i64 k ∧ Hid (∀ j, k ≤ j → l.getD j 0 = 0)) (fun i => (intOf i).toNat)
 case atStart => exact ⟨n, Nat.le_refl _, rfl, fun j hj => by rw [List.getD_eq_getElem?_getD, List.getElem?_eq_none (by rw [hlen.out]; exact hj)]; rfl⟩
 case round =>
  obtain ⟨k, hk, rfl, hz⟩ := hrel
  rcases Nat.eq_zero_or_pos k with h0 | h0
  · subst h0
    go_wp2
    go_ret
    exact ⟨rfl, 0, rfl, hk, val_take_zeros hz.out, norm_take (by omega) (.inl rfl)⟩
  · obtain ⟨q, rfl⟩ : ∃ q, k = q + 1 := ⟨k - 1, by omega⟩
    obtain ⟨b, o, x, rfl, hb, hx, hxb, hc⟩ := h.at_ (k := q) (by omega)
    have HX := Lib.hid hx
    clear hx
    go_wp2
    · have e : (x : Int) = 0 := by simpa using (by assumption : ((x : Int) == 0) = true)
      refine ⟨⟨q, by omega, rfl, Lib.hid fun j hj => ?_⟩, by simp [intOf]⟩
      rcases Nat.eq_or_lt_of_le hj with rfl | hj
      · rw [List.getD_eq_getElem?_getD, HX.out]; show x = 0; omega
      · exact hz.out j hj
    · have e : x ≠ 0 := by have := (by assumption : ((x : Int) == 0) = false); simp at this; omega
      go_ret
      refine ⟨rfl, q + 1, rfl, hk, val_take_zeros hz.out, norm_take (by rw [hlen.out]; exact hk) (.inr ?_)⟩
      rw [List.getD_eq_getElem?_getD, Nat.add_sub_cancel, HX.out]; exact e
end Go.Proofs.YthlfhfkfjefidaaGreat
/- Walks of functions that only compute: sums with carry, comparison, parts of words. -/
namespace Go.Proofs.YthlfhfkfjefidaaGreat
open Go.RowKit
def cmpI (x y : Int) : Int := if x < y then -1 else if x = y then 0 else 1
theorem cmpI_lt {x y : Int} (h : x < y) : cmpI x y = -1 := by unfold cmpI; rw [if_pos h]
theorem cmpI_eq {x y : Int} (h : x = y) : cmpI x y = 0 := by unfold cmpI; rw [if_neg (by omega), if_pos h]
theorem cmpI_gt {x y : Int} (h : y < x) : cmpI x y = 1 := by unfold cmpI; rw [if_neg (by omega), if_neg (by omega)]
theorem cmpI_cast (a b : Nat) : cmpI a b = cmpN a b := by
 unfold cmpI cmpN
 simp only [Int.ofNat_lt, Int.ofNat_inj]
theorem ret_int {k : IntKind} {a b : Int} (h : a = b) : Ending.returned (.int k a) = .returned (.int k b) := by rw [h]
theorem ret_int2 {k m : IntKind} {a b c d : Int} (h : a = b) (h2 : c = d) : Ending.returned (.tuple #[.int k a, .int m c]) = .returned (.tuple #[.int k b, .int m d]) := by rw [h, h2]
set_option maxHeartbeats 400000 in
theorem add32_any (x y c : Nat) (w : World) (hx : x < 4294967296) (hy : y < 4294967296) (hc : c ≤ 1) :
 Calls Tryz.prog 101 #[.int .u32 (x : Int), .int .u32 (y : Int), .int .u32 (c : Int)] w fun e w' => w = w' ∧
  ∃ s r : Nat, e = .returned (.tuple #[.int .u32 (s : Int), .int .u32 (r : Int)]) ∧ s < 4294967296 ∧ r ≤ 1 ∧ s + 4294967296 * r = x + y + c := by
 go_enter Tryz.func101, Tryz.ntmps101
 go_wp2
 go_ret2
 exact ⟨rfl, (x + y + c) % 4294967296, (x + y + c) / 4294967296, ret_int2 (by omega) (by omega), by omega, by omega, by omega⟩
set_option maxHeartbeats 400000 in
theorem cmp_int_any (x y : Int) (w : World) :
 Calls Tryz.prog 102 #[.int .i64 x, .int .i64 y] w fun e w' => w = w' ∧ e = .returned (.int .i64 (cmpI x y)) := by
 go_enter Tryz.func102, Tryz.ntmps102
 go_wp2
 · have h : x < y := by assumption
   go_ret
   exact ⟨rfl, ret_int (cmpI_lt h).symm⟩
 · have h : y < x := by assumption
   go_ret
   exact ⟨rfl, ret_int (cmpI_gt h).symm⟩
 · have h1 : y ≤ x := by assumption
   have h2 : x ≤ y := by assumption
   go_ret
   exact ⟨rfl, ret_int (cmpI_eq (by omega)).symm⟩
set_option maxHeartbeats 400000 in
theorem cmp_u32_any (x y : Int) (w : World) :
 Calls Tryz.prog 103 #[.int .u32 x, .int .u32 y] w fun e w' => w = w' ∧ e = .returned (.int .i64 (cmpI x y)) := by
 go_enter Tryz.func103, Tryz.ntmps103
 go_wp2
 · have h : x < y := by assumption
   go_ret
   exact ⟨rfl, ret_int (cmpI_lt h).symm⟩
 · have h : y < x := by assumption
   go_ret
   exact ⟨rfl, ret_int (cmpI_gt h).symm⟩
 · have h1 : y ≤ x := by assumption
   have h2 : x ≤ y := by assumption
   go_ret
   exact ⟨rfl, ret_int (cmpI_eq (by omega)).symm⟩
set_option maxHeartbeats 400000 in
theorem signed_any (s : Bool) (A : Option Addr) (n c : Nat) (w : World) :
 Calls Tryz.prog 57 #[.bool s, .slice A n c] w fun e w' => e = .returned (.agg #[.bool (s && decide (0 < n)), .slice A n c]) ∧ Below w.heap.size w w' := by
 go_enter Tryz.func57, Tryz.ntmps57
 go_wp2
 all_goals
  refine bodyPost_ret (v := .agg #[.bool (s && decide (0 < n)), .slice A n c]) (by simp [results, Tryz.results57, go_sem, *]) rfl ⟨rfl, ?_⟩
  exact (Below.refl _ _).alloc (Nat.le_refl _) _
set_option maxHeartbeats 400000 in
theorem limbsOf_any (x : Nat) (w : World) (hx : x < 18446744073709551616) :
 Calls Tryz.prog 58 #[.int .u64 (x : Int)] w fun e w' => Below w.heap.size w w' ∧ ∃ A n c l, e = .returned (.slice A n c) ∧ Lim w' w'.heap.size A n c l ∧ Norm l ∧ val l = x := by
 go_enter Tryz.func58, Tryz.ntmps58
 have hl : Lim (w.alloc (.cells #[.int .u32 ((x : Int) % 4294967296), .int .u32 ((x : Int) / 4294967296)] 81)) (w.heap.size + 1) (some ⟨w.heap.size, 0, none⟩) 2 2 [x % 4294967296, x / 4294967296] := by
  refine ⟨?_, Bd.nil.cons (by omega) |>.cons (by omega)⟩
  have := (Bk.alloc_ w 81 #[.int .u32 ((x : Int) % 4294967296), .int .u32 ((x : Int) / 4294967296)]).sl (B := w.heap.size + 1) (size := 1) (n := 2) (c := 2) (by omega) (by omega) (by omega) (by simp)
  simpa [u32s] using this
 have HL := Lib.hid hl
 clear hl
 go_wp2_with (go_at_call 97; refine (trim_any _ _ _ _ _ _ HL.out).mono ?_; rintro e w' ⟨rfl, m, rfl, hm, hv, hn⟩)
 go_ret
 refine ⟨(Below.refl _ _).alloc (Nat.le_refl _) _, _, m, 2, _, rfl, by simpa using HL.out.take hm, hn, ?_⟩
 rw [hv]
 simp only [val]
 omega
set_option maxHeartbeats 400000 in
theorem isOne_any (A : Option Addr) (n c : Nat) (l : List Nat) (B : Nat) (w : World) (h : Lim w B A n c l) :
 Calls Tryz.prog 96 #[.slice A n c] w fun e w' => w = w' ∧ e = .returned (.bool (decide (l = [1]))) := by
 have hlen := h.len
 by_cases h1 : n = 1
 · subst h1
   obtain ⟨b, o, x, rfl, hb, hx, hxb, hc⟩ := h.at_ (k := 0) (by omega)
   obtain ⟨y, rfl⟩ : ∃ y, l = [y] := by
    match l, hlen with
    | [y], _ => exact ⟨y, rfl⟩
   simp at hx
   subst hx
   rw [Nat.add_zero] at hc
   by_cases hy : y = 1
   · subst hy
     go_enter Tryz.func96, Tryz.ntmps96
     go_wp2
     go_ret
     exact ⟨rfl, rfl⟩
   · have e : decide ([y] = [1]) = false := by simp [hy]
     have e2 : ((y : Int) == 1) = false := by simp; omega
     rw [e]
     clear hlen e
     go_enter Tryz.func96, Tryz.ntmps96
     go_wp2
     go_ret
     exact ⟨rfl, rfl⟩
 · have e : decide (l = [1]) = false := by
    rw [decide_eq_false_iff_not]; rintro rfl; simp at hlen; omega
   have e2 : ((n : Int) == 1) = false := by simp; omega
   rw [e]
   clear hlen e
   go_enter Tryz.func96, Tryz.ntmps96
   go_wp2
   go_ret
   exact ⟨rfl, rfl⟩
set_option maxHeartbeats 400000 in
theorem opposite_any (s : Bool) (A : Option Addr) (n c : Nat) (w : World) :
 Calls Tryz.prog 64 #[.agg #[.bool s, .slice A n c]] w fun e w' => e = .returned (.agg #[.bool (!s), .slice A n c]) ∧ Below w.heap.size w w' := by
 go_enter Tryz.func64, Tryz.ntmps64
 go_wp2
 refine bodyPost_ret (v := .agg #[.bool (!s), .slice A n c]) (by simp [results, Tryz.results64, go_sem, *]) rfl ⟨rfl, ?_⟩
 exact ((Below.refl _ _).alloc (Nat.le_refl _) _).alloc (by simp) _
set_option maxHeartbeats 400000 in
theorem isZero_any (s : Bool) (A : Option Addr) (n c : Nat) (l : List Nat) (w : World) (h : Lim w w.heap.size A n c l) :
 Calls Tryz.prog 67 #[.agg #[.bool s, .slice A n c]] w fun e w' => e = .returned (.bool (decide (val l = 0))) ∧ Below w.heap.size w w' := by
 have hl := fun o => h.alloc o (Nat.le_refl _) (Nat.le_refl _)
 have HL := Lib.hid hl
 have HN := Lib.hid h.len
 clear hl h
 go_enter Tryz.func67, Tryz.ntmps67
 go_wp2_with (go_at_call 97; refine (trim_any _ _ _ _ _ _ (HL.out _)).mono ?_; rintro e w' ⟨rfl, m, rfl, hm, hv, hn⟩)
 go_ret
 refine ⟨?_, (Below.refl _ _).alloc (Nat.le_refl _) _⟩
 have e1 : ((m : Int) == 0) = decide (val l = 0) := by
  rw [← hv, Bool.eq_iff_iff]
  simp only [beq_iff_eq, decide_eq_true_eq]
  rw [norm_zero hn]
  constructor
  · intro h0
    have : m = 0 := by omega
    subst this; simp
  · intro h0
    have := congrArg List.length h0
    rw [List.length_take, HN.out, Nat.min_eq_left hm] at this
    simp at this; omega
 rw [← e1]
 rfl
set_option maxHeartbeats 1000000 in
theorem read_any (s : Bool) (A : Option Addr) (n c : Nat) (l : List Nat) (w : World) (h : Lim w w.heap.size A n c l) :
 Calls Tryz.prog 53 #[.agg #[.bool s, .slice A n c]] w fun e w' => Below w.heap.size w w' ∧
  ∃ s' m, e = .returned (.agg #[.bool s', .slice A m c]) ∧ m ≤ n ∧ val (l.take m) = val l ∧ Norm (l.take m) ∧ s' = (s && decide (0 < m)) := by
 have HL : Hid (∀ w', Below w.heap.size w w' → Lim w' w.heap.size A n c l) := fun w' hb => h.below hb (Nat.le_refl _) (Nat.le_refl _)
 clear h
 go_enter Tryz.func53, Tryz.ntmps53
 go_wp2_with fail
 go_region_held3 (fun w' => w'.cell? ⟨w.heap.size, 0, none⟩ = some (.bool s) ∧ w'.cell? ⟨w.heap.size, 1, none⟩ = some (.slice A n c))
  (first | go_keep | (refine ⟨?_, ?_⟩ <;> (rw [hc _ _ (by simp; omega)]; go_keep)))
  (first
    | (go_at_call 97; refine (trim_any _ _ _ _ _ _ (HL.out _ (by repeat (first | exact Below.refl _ _ | assumption | refine Below.drew ?_ | refine Below.drewN ?_ _ | refine Below.alloc ?_ (by simp <;> omega) _ | refine Below.setCell ?_ (by simp <;> omega) _)))).mono ?_; rintro e w' ⟨rfl, m, rfl, hm, hv, hn⟩)
    | (go_at_call 57; refine (signed_any _ _ _ _ _).mono ?_; rintro e w' ⟨rfl, hb⟩; obtain ⟨hc, hf⟩ := bcell hb; have hz := hb.size; simp at hz; have hB : Below w.heap.size w w' := Below.trans (by repeat (first | exact Below.refl _ _ | assumption | refine Below.drew ?_ | refine Below.drewN ?_ _ | refine Below.alloc ?_ (by simp <;> omega) _ | refine Below.setCell ?_ (by simp <;> omega) _)) (hb.mono (by simp; omega))))
 go_wp2
 refine bodyPost_ret (v := .agg #[.bool (s && decide (0 < m)), .slice A m c]) (by simp [results, Tryz.results53, go_sem, hc]) rfl ⟨(by repeat (first | exact Below.refl _ _ | assumption | refine Below.drew ?_ | refine Below.drewN ?_ _ | refine Below.alloc ?_ (by simp <;> omega) _ | refine Below.setCell ?_ (by simp <;> omega) _)), _, m, rfl, hm, hv, hn, rfl⟩
end Go.Proofs.YthlfhfkfjefidaaGreat
/- The walk of compareLimbs: limbs in normal form compare as their values do. -/
namespace Go.Proofs.YthlfhfkfjefidaaGreat
open Go.RowKit
theorem cmp_top {a b : List Nat} (ha : Bd a) (hb : Bd b) (hl : a.length = b.length) {k x y : Nat} (hx : a[k]? = some x) (hy : b[k]? = some y) (hne : x ≠ y) (hd : a.drop (k + 1) = b.drop (k + 1)) :
 cmpN x y = cmpN (val a) (val b) := by
 obtain ⟨ka, rfl⟩ := List.getElem?_eq_some_iff.1 hx
 obtain ⟨kb, rfl⟩ := List.getElem?_eq_some_iff.1 hy
 rcases Nat.lt_or_ge a[k] b[k] with h | h
 · rw [cmpN_lt h, cmpN_lt (val_lt_of_top ha ka kb hl hd h)]
 · rw [cmpN_gt (by omega), cmpN_gt (val_lt_of_top hb kb ka hl.symm hd.symm (by omega))]
theorem quiet_add_left {P : Program} {f : FuncId} {args : Array Value} {w : World} {a n : Nat} {v : Value}
 (h : Calls P f args (w.drewN (a + n)) fun e w' => w.drewN (a + n) = w' ∧ e = .returned v) :
 Calls P f args (w.drewN (a + n)) fun e w'' => e = .returned v ∧ ∃ m, w'' = w.drewN (a + m) :=
 h.mono fun _ _ ⟨hm, he⟩ => ⟨he, n, hm.symm⟩
set_option maxHeartbeats 1000000 in
theorem compareLimbs_any (A A2 : Option Addr) (n c m d : Nat) (a b : List Nat) (B B2 : Nat) (w : World) (ha : Lim w B A n c a) (hb : Lim w B2 A2 m d b) (na : Norm a) (nb : Norm b) :
 Calls Tryz.prog 61 #[.slice A n c, .slice A2 m d] w fun e w' => e = .returned (.int .i64 (cmpN (val a) (val b))) ∧ ∃ k, w' = w.drewN k := by
 have hcap := ha.cap
 have hmax := ha.max
 have hcap2 := hb.cap
 have hmax2 := hb.max
 have hla := Lib.hid ha.len
 have hlb := Lib.hid hb.len
 by_cases hne : n = m
 · subst hne
   have hba := Lib.hid ha.bd
   have hbb := Lib.hid hb.bd
   go_enter Tryz.func61, Tryz.ntmps61
   go_wp2_with fail
   go_loopw [5] (fun i wr => ∃ j : Int, -1 ≤ j ∧ j < (n : Int) ∧ i = .int .i64 j ∧ Hid (a.drop (j + 1).toNat = b.drop (j + 1).toNat) ∧ ∃ q, wr = w.drewN q) (fun i _ => (intOf i + 1).toNat)
   case atStart =>
    refine ⟨(n : Int) - 1, by omega, by omega, rfl, ?_, 0, rfl⟩
    rw [show ((n : Int) - 1 + 1).toNat = n from by omega, List.drop_of_length_le (by rw [hla.out]; exact Nat.le_refl _), List.drop_of_length_le (by rw [hlb.out]; exact Nat.le_refl _)]
    exact rfl
   case round =>
    obtain ⟨j, hj1, hj2, rfl, hd, q, rfl⟩ := hrel
    rcases Int.lt_or_le j 0 with h0 | h0
    · have hv : a = b := by
       have := hd.out
       rw [show (j + 1).toNat = 0 from by omega] at this
       simpa using this
      have HV := Lib.hid hv
      clear hd hv
      go_wp2
      go_ret
      exact ⟨by rw [HV.out, cmpN_self]; rfl, q, rfl⟩
    · obtain ⟨k, rfl⟩ : ∃ k : Nat, j = (k : Int) := ⟨j.toNat, by omega⟩
      obtain ⟨b1, o1, x, rfl, hb1, hx, hxb, hc1⟩ := ha.at_ (k := k) (by omega)
      obtain ⟨b2, o2, y, rfl, hb2, hy, hyb, hc2⟩ := hb.at_ (k := k) (by omega)
      have HX := Lib.hid hx
      have HY := Lib.hid hy
      have hcmp := cmpI_cast x y
      have HC := Lib.hid hcmp
      clear hx hy hcmp
      have hk1 : k < n := by omega
      by_cases hxy : x = y
      · subst hxy
        go_wp2
        go_quiet (fail)
        go_wp2
        go_roundw
        case rel =>
         refine ⟨(k : Int) - 1, by omega, by omega, rfl, ?_, _, rfl⟩
         have h1 := hd.out
         rw [show ((k : Int) + 1).toNat = k + 1 from by omega] at h1
         have e1 := List.drop_eq_getElem_cons (i := k) (l := a) (by rw [hla.out]; exact hk1)
         have e2 := List.drop_eq_getElem_cons (i := k) (l := b) (by rw [hlb.out]; exact hk1)
         have g1 := (List.getElem?_eq_some_iff.1 HX.out).2
         have g2 := (List.getElem?_eq_some_iff.1 HY.out).2
         rw [show ((k : Int) - 1 + 1).toNat = k from by omega, e1, e2, g1, g2, h1]
         exact rfl
        case measure => simp [intOf]
      · have hne : ((x : Int) != (y : Int)) = true := by simp; omega
        go_wp2
        go_quiet (fail)
        go_wp2
        go_quiet ((go_at_call 103; exact quiet_add_left (cmp_u32_any _ _ _)))
        go_wp2
        go_ret
        refine ⟨?_, _, by rw [World.drewN_drewN, World.drewN_drewN]⟩
        have h1 := hd.out
        rw [show ((k : Int) + 1).toNat = k + 1 from by omega] at h1
        exact ret_int (HC.out.trans (cmp_top hba.out hbb.out (hla.out.trans hlb.out.symm) HX.out HY.out hxy h1))
 · have hn2 : ((n : Int) != (m : Int)) = true := by simp; omega
   have hcmp : cmpI n m = cmpN (val a) (val b) := by
    rw [cmpI_cast]
    rcases Nat.lt_or_ge n m with h1 | h1
    · rw [cmpN_lt h1, cmpN_lt (norm_len_lt ha.bd nb (by rw [hla.out, hlb.out]; exact h1))]
    · rw [cmpN_gt (by omega), cmpN_gt (norm_len_lt hb.bd na (by rw [hla.out, hlb.out]; omega))]
   have HC := Lib.hid hcmp
   clear hcmp ha hb na nb
   go_enter Tryz.func61, Tryz.ntmps61
   go_wp2_with (go_at_call 102; refine (cmp_int_any _ _ _).mono ?_; rintro e w' ⟨rfl, rfl⟩)
   go_ret
   exact ⟨ret_int HC.out, 0, rfl⟩
end Go.Proofs.YthlfhfkfjefidaaGreat
