/- Outlines as lists of points: cells, directions, twice the area. No program is named here. -/
import Derived.Test.YtbfbjpnmgcpjlaaCells
import Derived.Test.YtbfbjpnmgcpjlaaIn
namespace Go.Proofs.Ytbfbjpnmgcpjlaa
open Go.RowKit

/-- Points as cells. -/
def pcells : List (Int × Int) → List Value
  | [] => []
  | p :: l => .int .i64 p.1 :: .int .i64 p.2 :: pcells l
theorem pcells_length (l : List (Int × Int)) : (pcells l).length = l.length * 2 := by
  induction l with
  | nil => rfl
  | cons p l ih => simp only [pcells, List.length_cons, ih]; omega
theorem pcells_get (l : List (Int × Int)) (k : Nat) : (pcells l)[k * 2]? = (l[k]?).map (fun p => .int .i64 p.1) ∧ (pcells l)[k * 2 + 1]? = (l[k]?).map (fun p => .int .i64 p.2) := by
  induction l generalizing k with
  | nil => simp [pcells]
  | cons p l ih =>
    match k with
    | 0 => simp [pcells]
    | k + 1 =>
      have := ih k
      rw [show (k + 1) * 2 = k * 2 + 1 + 1 from by omega]
      simpa [pcells] using this

/-- A slice value that reads as a list of points. -/
structure Pts (w : World) (B : Nat) (A : Option Addr) (n c : Nat) (l : List (Int × Int)) : Prop where
  sl : Sl w B 2 A n c (pcells l)

section
variable {w w' : World} {B B' n c : Nat} {A : Option Addr} {l : List (Int × Int)}
theorem Pts.len (h : Pts w B A n c l) : l.length = n := by have := h.sl.len; rw [pcells_length] at this; omega
theorem Pts.cap (h : Pts w B A n c l) : n ≤ c := h.sl.cap
theorem Pts.max (h : Pts w B A n c l) : c ≤ 9223372036854775807 := h.sl.max
theorem Pts.below (h : Pts w B A n c l) {D : Nat} (hb : Below D w w') (hD : B ≤ D) (hB : B ≤ B') : Pts w' B' A n c l := ⟨h.sl.below hb hD hB⟩
theorem Pts.mono (h : Pts w B A n c l) (hB : B ≤ B') : Pts w B' A n c l := ⟨h.sl.mono hB⟩
theorem Pts.at_ (h : Pts w B A n c l) {k : Nat} (hk : k < n) : ∃ b o x y, A = some ⟨b, o, none⟩ ∧ b < B ∧ l[k]? = some (x, y) ∧ w.cell? ⟨b, o + k * 2, none⟩ = some (.int .i64 x) ∧ w.cell? ⟨b, o + k * 2 + 1, none⟩ = some (.int .i64 y) := by
  obtain ⟨b, o, e, hb, hc⟩ := h.sl.cells (by omega)
  have hl : k < l.length := by have := h.len; omega
  have hg := pcells_get l k
  rw [List.getElem?_eq_getElem hl] at hg
  exact ⟨b, o, l[k].1, l[k].2, e, hb, List.getElem?_eq_getElem hl, hc _ _ hg.1, hc _ _ hg.2⟩
end

theorem Pts.of_bk {w : World} {B n c g : Nat} {t : TypeId} {l : List (Int × Int)} (h : Bk w g t (pcells l).toArray) (hB : g < B) (hn : l.length = n) (hc : n ≤ c) (hm : c ≤ 9223372036854775807) : Pts w B (some ⟨g, 0, none⟩) n c l := by
  refine ⟨?_⟩
  have hl := pcells_length l
  have := h.sl (B := B) (size := 2) (n := n) (c := c) hB hc hm (by simp; omega)
  rwa [List.take_of_length_le (by simp; omega)] at this

/-- Point k of a list; the next one of a ring. -/
def pt (l : List (Int × Int)) (k : Nat) : Int × Int := l.getD k (0, 0)
def nx (l : List (Int × Int)) (k : Nat) : Nat := if k + 1 = l.length then 0 else k + 1
theorem pt_of {l : List (Int × Int)} {k : Nat} {x y : Int} (h : l[k]? = some (x, y)) : pt l k = (x, y) := by unfold pt; rw [List.getD_eq_getElem?_getD, h]; rfl
theorem nx_lt {l : List (Int × Int)} {k : Nat} (h : k < l.length) : nx l k < l.length := by unfold nx; split <;> omega
theorem nx_mod {l : List (Int × Int)} {k n : Nat} (h : k < n) (hl : l.length = n) : ((k : Int) + 1) % (n : Int) = (nx l k : Int) := by
  unfold nx
  rw [hl]
  split
  · rename_i e
    rw [← e]
    simp
  · rw [Int.emod_eq_of_lt (by omega) (by omega)]
    simp

/-- A place that may be. -/
def inP (p : Int × Int) : Bool := inB p.1 && inB p.2
theorem inP_iff {p : Int × Int} : inP p = true ↔ (-1000000 ≤ p.1 ∧ p.1 ≤ 1000000) ∧ (-1000000 ≤ p.2 ∧ p.2 ≤ 1000000) := by unfold inP; simp [inB_iff]
theorem pt_in {l : List (Int × Int)} (h : l.all inP = true) {k : Nat} {x y : Int} (hx : l[k]? = some (x, y)) : (-1000000 ≤ x ∧ x ≤ 1000000) ∧ -1000000 ≤ y ∧ y ≤ 1000000 := by
  have := List.all_eq_true.1 h _ (List.mem_of_getElem? hx)
  exact inP_iff.1 this

theorem mul_bd {x y : Int} (h1 : -1000000 ≤ x) (h2 : x ≤ 1000000) (h3 : -1000000 ≤ y) (h4 : y ≤ 1000000) : -1000000000000 ≤ x * y ∧ x * y ≤ 1000000000000 := by
  have a := Int.mul_nonneg (show 0 ≤ x + 1000000 by omega) (show 0 ≤ y + 1000000 by omega)
  have b := Int.mul_nonneg (show 0 ≤ 1000000 - x by omega) (show 0 ≤ 1000000 - y by omega)
  have c := Int.mul_nonneg (show 0 ≤ x + 1000000 by omega) (show 0 ≤ 1000000 - y by omega)
  have d := Int.mul_nonneg (show 0 ≤ 1000000 - x by omega) (show 0 ≤ y + 1000000 by omega)
  rw [Int.add_mul, Int.mul_add, Int.mul_add] at a
  rw [Int.sub_mul, Int.mul_sub, Int.mul_sub] at b
  rw [Int.add_mul, Int.mul_sub, Int.mul_sub] at c
  rw [Int.sub_mul, Int.mul_add, Int.mul_add] at d
  omega

/-- Twice the area that the first k sides tell. -/
def cross (l : List (Int × Int)) (k : Nat) : Int := (pt l k).1 * (pt l (nx l k)).2 - (pt l (nx l k)).1 * (pt l k).2
def twiceTo (l : List (Int × Int)) : Nat → Int
  | 0 => 0
  | k + 1 => twiceTo l k + cross l k
def twice (l : List (Int × Int)) : Int := twiceTo l l.length

theorem cross_bd {l : List (Int × Int)} (h : l.all inP = true) {k : Nat} (hk : k < l.length) : -2000000000000 ≤ cross l k ∧ cross l k ≤ 2000000000000 := by
  have g1 := List.getElem?_eq_getElem hk
  have g2 := List.getElem?_eq_getElem (nx_lt hk)
  have p1 := pt_in h (x := l[k].1) (y := l[k].2) g1
  have p2 := pt_in h (x := (l[nx l k]'(nx_lt hk)).1) (y := (l[nx l k]'(nx_lt hk)).2) g2
  unfold cross
  rw [pt_of (x := l[k].1) (y := l[k].2) g1, pt_of (x := (l[nx l k]'(nx_lt hk)).1) (y := (l[nx l k]'(nx_lt hk)).2) g2]
  have m1 := mul_bd p1.1.1 p1.1.2 p2.2.1 p2.2.2
  have m2 := mul_bd p2.1.1 p2.1.2 p1.2.1 p1.2.2
  simp only
  omega
theorem twiceTo_bd {l : List (Int × Int)} (h : l.all inP = true) : ∀ k, k ≤ l.length → -2000000000000 * (k : Int) ≤ twiceTo l k ∧ twiceTo l k ≤ 2000000000000 * (k : Int)
  | 0, _ => by simp [twiceTo]
  | k + 1, hk => by
    have := twiceTo_bd h k (by omega)
    have := cross_bd h (k := k) (by omega)
    simp only [twiceTo]
    omega

/-- The direction from one point to another: 0 to 3, or -1. -/
def dirP (p q : Int × Int) : Int :=
  if p.2 = q.2 ∧ p.1 < q.1 then 0 else if p.1 = q.1 ∧ p.2 < q.2 then 1 else if p.2 = q.2 ∧ q.1 < p.1 then 2 else if p.1 = q.1 ∧ q.2 < p.2 then 3 else -1
theorem dirP_bd (p q : Int × Int) : -1 ≤ dirP p q ∧ dirP p q ≤ 3 := by unfold dirP; repeat' split <;> omega

end Go.Proofs.Ytbfbjpnmgcpjlaa
