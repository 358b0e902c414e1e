/- Sides as cells; slices that are made. No function of the program is named here. -/
import Derived.Test.YtbfbjpnmgcpjlaaSides
import Derived.Laws.MakeOwn
import Derived.Laws.Entries
import Derived.Laws.Rows
namespace Go.Proofs.Ytbfbjpnmgcpjlaa
open Go.RowKit

def Side.cells (s : Side) : List Value := [.int .i64 s.x1, .int .i64 s.y1, .int .i64 s.x2, .int .i64 s.y2, .int .i64 s.len, .int .i64 s.dir]
def scells : List Side → List Value
  | [] => []
  | s :: l => s.cells ++ scells l
theorem scells_length (l : List Side) : (scells l).length = l.length * 6 := by
  induction l with
  | nil => rfl
  | cons p l ih => simp only [scells, List.length_append, List.length_cons, ih, Side.cells, List.length_nil]; omega
theorem scells_append (l m : List Side) : scells (l ++ m) = scells l ++ scells m := by
  induction l with
  | nil => rfl
  | cons p l ih => simp [scells, ih]
theorem scells_get (l : List Side) (k : Nat) (s : Side) (h : l[k]? = some s) : (scells l)[k * 6]? = some (.int .i64 s.x1) ∧ (scells l)[k * 6 + 1]? = some (.int .i64 s.y1) ∧ (scells l)[k * 6 + 2]? = some (.int .i64 s.x2) ∧
    (scells l)[k * 6 + 3]? = some (.int .i64 s.y2) ∧ (scells l)[k * 6 + 4]? = some (.int .i64 s.len) ∧ (scells l)[k * 6 + 5]? = some (.int .i64 s.dir) := by
  induction l generalizing k with
  | nil => simp at h
  | cons p l ih =>
    match k with
    | 0 =>
      simp at h
      subst h
      simp [scells, Side.cells]
    | k + 1 =>
      have := ih k (by simpa using h)
      rw [show (k + 1) * 6 = k * 6 + 1 + 1 + 1 + 1 + 1 + 1 from by omega]
      simpa [scells, Side.cells] using this

/-- A slice value that reads as a list of sides. -/
structure Walls (w : World) (B : Nat) (A : Option Addr) (n c : Nat) (l : List Side) : Prop where
  sl : Sl w B 6 A n c (scells l)

section
variable {w w' : World} {B B' n c : Nat} {A : Option Addr} {l : List Side}
theorem Walls.len (h : Walls w B A n c l) : l.length = n := by have := h.sl.len; rw [scells_length] at this; omega
theorem Walls.cap (h : Walls w B A n c l) : n ≤ c := h.sl.cap
theorem Walls.max (h : Walls w B A n c l) : c ≤ 9223372036854775807 := h.sl.max
theorem Walls.below (h : Walls w B A n c l) {D : Nat} (hb : Below D w w') (hD : B ≤ D) (hB : B ≤ B') : Walls w' B' A n c l := ⟨h.sl.below hb hD hB⟩
theorem Walls.mono (h : Walls w B A n c l) (hB : B ≤ B') : Walls w B' A n c l := ⟨h.sl.mono hB⟩
theorem Walls.at_ (h : Walls w B A n c l) {k : Nat} (hk : k < n) : ∃ b o s, A = some ⟨b, o, none⟩ ∧ b < B ∧ l[k]? = some s ∧ w.cell? ⟨b, o + k * 6, none⟩ = some (.int .i64 s.x1) ∧ w.cell? ⟨b, o + k * 6 + 1, none⟩ = some (.int .i64 s.y1) ∧
    w.cell? ⟨b, o + k * 6 + 2, none⟩ = some (.int .i64 s.x2) ∧ w.cell? ⟨b, o + k * 6 + 3, none⟩ = some (.int .i64 s.y2) ∧ w.cell? ⟨b, o + k * 6 + 4, none⟩ = some (.int .i64 s.len) ∧ w.cell? ⟨b, o + k * 6 + 5, none⟩ = some (.int .i64 s.dir) := by
  obtain ⟨b, o, e, hb, hc⟩ := h.sl.cells (by omega)
  have hl : k < l.length := by have := h.len; omega
  obtain ⟨g0, g1, g2, g3, g4, g5⟩ := scells_get l k l[k] (List.getElem?_eq_getElem hl)
  exact ⟨b, o, l[k], e, hb, List.getElem?_eq_getElem hl, hc _ _ g0, hc _ _ g1, hc _ _ g2, hc _ _ g3, hc _ _ g4, hc _ _ g5⟩
theorem Walls.of_bk {g : Nat} {t : TypeId} (h : Bk w g t (scells l).toArray) (hB : g < B) (hn : l.length = n) (hc : n ≤ c) (hm : c ≤ 9223372036854775807) : Walls w B (some ⟨g, 0, none⟩) n c l := by
  refine ⟨?_⟩
  have hl := scells_length l
  have := h.sl (B := B) (size := 6) (n := n) (c := c) hB hc hm (by simp; omega)
  rwa [List.take_of_length_le (by simp; omega)] at this
end

/-- Zeros. -/
def zs (m : Nat) : List Value := List.replicate m (.int .i64 0)
theorem zs_length (m : Nat) : (zs m).length = m := by simp [zs]
theorem made_zs (z : Value) (q m : Nat) (hz : z.cells = (zs q).toArray) (hq : 0 < q) : madeCells z.cells m = (zs m).toArray := by
  rw [hz]
  apply Array.ext
  · simp [size_madeCells, zs]
  · intro j h1 h2
    simp [madeCells, zs, Nat.mod_lt _ hq]

/-- make of a slice of numbers, points or sides. -/
theorem make_any {P : Program} (t e : TypeId) (i : TypeInfo) (z : Value) (ht : P.underlying t = some (.slice e)) (hi : P.info? e = some i) (hz : i.zero = some z) {q : Nat} (hs : i.size = q) (hc : z.cells = (zs q).toArray) (hq : 0 < q)
    (n : Nat) (hbytes : i.bytes * n ≤ 281474976710656) (h63 : n ≤ 9223372036854775807) (w : World) :
    (Instr.makeSlice t (.int .i64 (n : Int)) (.int .i64 (n : Int))).run P w = .ok (.slice (some ⟨w.heap.size, 0, none⟩) n n) (w.alloc (.cells (zs (n * q)).toArray e)) := by
  have hb : (i.bytes : Int) * (n : Int) ≤ 281474976710656 := by
    have h : ((i.bytes * n : Nat) : Int) ≤ 281474976710656 := by omega
    rwa [Int.natCast_mul] at h
  have hr := run_make (P := P) w t e i z ht hi hz .i64 .i64 n n (by omega) (by omega) hb (by omega)
  simp only [Int.toNat_natCast, hs] at hr
  rw [hr, made_zs z q _ hc hq]

/-- A row of zeros whose next six cells are written. -/
theorem zs_add (a b : Nat) : zs (a + b) = zs a ++ zs b := by simp [zs, List.replicate_append_replicate]
theorem zs_six (m : Nat) : zs (m + 6) = .int .i64 0 :: .int .i64 0 :: .int .i64 0 :: .int .i64 0 :: .int .i64 0 :: .int .i64 0 :: zs m := by simp [zs, List.replicate_succ]
theorem set_six (pre post : List Value) (k : Nat) (hk : pre.length = k) (a b c d e f v0 v1 v2 v3 v4 v5 : Value) :
    ((((((pre ++ a :: b :: c :: d :: e :: f :: post).set k v0).set (k + 1) v1).set (k + 2) v2).set (k + 3) v3).set (k + 4) v4).set (k + 5) v5 = pre ++ v0 :: v1 :: v2 :: v3 :: v4 :: v5 :: post := by
  subst hk
  simp [List.set_append_right]
theorem Bk.set_six {w : World} {g t : Nat} {pre post : List Value} {k : Nat} {a b c d e f : Value} (h : Bk w g t (pre ++ a :: b :: c :: d :: e :: f :: post).toArray) (hk : pre.length = k) (v0 v1 v2 v3 v4 v5 : Value) :
    Bk ((((((w.setCell ⟨g, k, none⟩ v0).setCell ⟨g, k + 1, none⟩ v1).setCell ⟨g, k + 2, none⟩ v2).setCell ⟨g, k + 3, none⟩ v3).setCell ⟨g, k + 4, none⟩ v4).setCell ⟨g, k + 5, none⟩ v5) g t (pre ++ v0 :: v1 :: v2 :: v3 :: v4 :: v5 :: post).toArray := by
  have := (((((h.set_ k v0).set_ (k + 1) v1).set_ (k + 2) v2).set_ (k + 3) v3).set_ (k + 4) v4).set_ (k + 5) v5
  simp only [List.setIfInBounds_toArray] at this
  rwa [Go.Proofs.Ytbfbjpnmgcpjlaa.set_six pre post k hk] at this
theorem Bk.cells_six {w : World} {g t : Nat} {pre post : List Value} {k : Nat} {a b c d e f : Value} (h : Bk w g t (pre ++ a :: b :: c :: d :: e :: f :: post).toArray) (hk : pre.length = k) :
    (w.cell? ⟨g, k, none⟩ = some a ∧ w.cell? ⟨g, k + 1, none⟩ = some b ∧ w.cell? ⟨g, k + 2, none⟩ = some c ∧ w.cell? ⟨g, k + 3, none⟩ = some d ∧ w.cell? ⟨g, k + 4, none⟩ = some e ∧ w.cell? ⟨g, k + 5, none⟩ = some f) ∧
    w.frozen? ⟨g, k, none⟩ = false ∧ w.frozen? ⟨g, k + 1, none⟩ = false ∧ w.frozen? ⟨g, k + 2, none⟩ = false ∧ w.frozen? ⟨g, k + 3, none⟩ = false ∧ w.frozen? ⟨g, k + 4, none⟩ = false ∧ w.frozen? ⟨g, k + 5, none⟩ = false := by
  subst hk
  exact ⟨⟨by rw [h.cell]; simp, by rw [h.cell]; simp, by rw [h.cell]; simp, by rw [h.cell]; simp, by rw [h.cell]; simp, by rw [h.cell]; simp⟩, h.frozen _, h.frozen _, h.frozen _, h.frozen _, h.frozen _, h.frozen _⟩

end Go.Proofs.Ytbfbjpnmgcpjlaa
