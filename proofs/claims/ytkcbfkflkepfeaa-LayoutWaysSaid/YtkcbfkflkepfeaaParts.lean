/- Walks: partsOf of the program. -/
import Derived.Test.YtkcbfkflkepfeaaCost
namespace Go.Proofs.Ytkcbfkflkepfeaa
open Go.RowKit

def Part.cells (p : Part) : List Value := [.int .i64 p.len, .int .i64 p.units, .int .i64 p.code, .bool p.board]
def ptcells : List Part → List Value
  | [] => []
  | p :: l => p.cells ++ ptcells l
theorem ptcells_length (l : List Part) : (ptcells l).length = l.length * 4 := by
  induction l with
  | nil => rfl
  | cons p l ih => simp only [ptcells, List.length_append, List.length_cons, ih, Part.cells, List.length_nil]; omega
theorem ptcells_append (l m : List Part) : ptcells (l ++ m) = ptcells l ++ ptcells m := by
  induction l with
  | nil => rfl
  | cons p l ih => simp [ptcells, ih]
theorem ptcells_get (l : List Part) (k : Nat) (s : Part) (h : l[k]? = some s) : (ptcells l)[k * 4]? = some (.int .i64 s.len) ∧ (ptcells l)[k * 4 + 1]? = some (.int .i64 s.units) ∧ (ptcells l)[k * 4 + 2]? = some (.int .i64 s.code) ∧ (ptcells l)[k * 4 + 3]? = some (.bool s.board) := by
  induction l generalizing k with
  | nil => simp at h
  | cons p l ih =>
    match k with
    | 0 =>
      simp at h
      subst h
      simp [ptcells, Part.cells]
    | k + 1 =>
      have := ih k (by simpa using h)
      rw [show (k + 1) * 4 = k * 4 + 1 + 1 + 1 + 1 from by omega]
      simpa [ptcells, Part.cells] using this
theorem pt_one (p : Part) : ∀ u ∈ p.cells, u.oneCell' = true := by
  intro u hu
  simp [Part.cells] at hu
  rcases hu with rfl | rfl | rfl | rfl <;> rfl

/-- A slice value that reads as a list of parts. -/
structure PartsAt (w : World) (B : Nat) (A : Option Addr) (n c : Nat) (l : List Part) : Prop where
  sl : Sl w B 4 A n c (ptcells l)
  nil : A = none → n = 0 ∧ c = 0
section
variable {w w' : World} {B B' n c : Nat} {A : Option Addr} {l : List Part}
theorem PartsAt.len (h : PartsAt w B A n c l) : l.length = n := by have := h.sl.len; rw [ptcells_length] at this; omega
theorem PartsAt.cap (h : PartsAt w B A n c l) : n ≤ c := h.sl.cap
theorem PartsAt.max (h : PartsAt w B A n c l) : c ≤ 9223372036854775807 := h.sl.max
theorem PartsAt.below (h : PartsAt w B A n c l) {D : Nat} (hb : Below D w w') (hD : B ≤ D) (hB : B ≤ B') : PartsAt w' B' A n c l := ⟨h.sl.below hb hD hB, h.nil⟩
theorem PartsAt.at_ (h : PartsAt w B A n c l) {k : Nat} (hk : k < n) : ∃ b o s, A = some ⟨b, o, none⟩ ∧ b < B ∧ l[k]? = some s ∧ w.cell? ⟨b, o + k * 4, none⟩ = some (.int .i64 s.len) ∧ w.cell? ⟨b, o + k * 4 + 1, none⟩ = some (.int .i64 s.units) ∧
    w.cell? ⟨b, o + k * 4 + 2, none⟩ = some (.int .i64 s.code) ∧ w.cell? ⟨b, o + k * 4 + 3, none⟩ = some (.bool s.board) := by
  obtain ⟨b, o, e, hb, hc⟩ := h.sl.cells (by omega)
  have hl : k < l.length := by have := h.len; omega
  obtain ⟨g0, g1, g2, g3⟩ := ptcells_get l k l[k] (List.getElem?_eq_getElem hl)
  exact ⟨b, o, l[k], e, hb, List.getElem?_eq_getElem hl, hc _ _ g0, hc _ _ g1, hc _ _ g2, hc _ _ g3⟩
end
theorem PartsAt.of_own {w : World} {base e n : Nat} {v : Value} {l : List Part} (h : w.ownsRow base e 4 v n (ptcells l)) : ∃ A c, v = .slice A n c ∧ PartsAt w w.heap.size A n c l := by
  obtain ⟨A, c, e, h1, h2⟩ := Sl.of_own h
  exact ⟨A, c, e, ⟨h1, h2⟩⟩
theorem info_part : (Try.prog.info? 80).map (fun i => (i.zero, i.size, i.bytes)) = some (some (.agg #[.int .i64 0, .int .i64 0, .int .i64 0, .bool false]), 4, 32) := by kernel_rfl

theorem bay_eq (s : Sys) (x : Int) : s.bay x = ⟨x, x.tdiv s.unit, 10000 * (odds s.reg [x] : Int) + 1, false⟩ := by
  unfold Sys.bay odds
  by_cases h : x = s.reg <;> simp [h]
theorem brd_eq (s : Sys) (x : Int) : s.brd x = ⟨x, x.tdiv s.unit, 10000 * (1 + (odds s.reg [] : Int)) + 0, true⟩ := by
  unfold Sys.brd odds
  simp
theorem map_take {α β : Type} (f : α → β) {l : List α} {k : Nat} {x : α} (h : l[k]? = some x) : (l.take (k + 1)).map f = (l.take k).map f ++ [f x] := by
  obtain ⟨hk, rfl⟩ := List.getElem?_eq_some_iff.1 h
  rw [List.take_succ_eq_append_getElem hk, List.map_append]
  rfl
theorem Ints.one {w : World} {g : Nat} {t : TypeId} {x : Int} (h : Bk w g t #[.int .i64 x]) : Ints w w.heap.size (some ⟨g, 0, none⟩) 1 1 [x] :=
  ⟨Nums.of_bk (by simpa [i64s] using h) h.lt rfl (Nat.le_refl _) (by omega), fun h => by cases h⟩
theorem Ints.none_ (w : World) : Ints w w.heap.size none 0 0 [] := ⟨⟨Sl.nil_ _ _ _⟩, fun _ => ⟨rfl, rfl⟩⟩

end Go.Proofs.Ytkcbfkflkepfeaa
