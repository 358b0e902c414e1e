/- Chapter 9: terms, charges, moves, lots, events in memory. No program is named here. -/
import Derived.Test.YtmcefodfppdajaaRows9
namespace Go.Proofs.Ytmcefodfppdajaa
open Go.RowKit

/-- A text and three numbers: terms, charges. -/
structure Q4 where
  s : ByteArray
  a : Int
  b : Int
  c : Int
def Q4.cs (x : Q4) : List Value := [.string x.s, .int .i64 x.a, .int .i64 x.b, .int .i64 x.c]
theorem Q4.wide (x : Q4) : x.cs.length = 4 := rfl
/-- A move: day, kind, part, count. -/
structure Mv where
  d : Int
  k : Int
  p : ByteArray
  n : Int
def Mv.cs (x : Mv) : List Value := [.int .i64 x.d, .int .i64 x.k, .string x.p, .int .i64 x.n]
theorem Mv.wide (x : Mv) : x.cs.length = 4 := rfl
/-- A lot: part, count, in, day, out. -/
structure Lt where
  p : ByteArray
  n : Int
  i : Int
  d : Int
  o : Int
def Lt.cs (x : Lt) : List Value := [.string x.p, .int .i64 x.n, .int .i64 x.i, .int .i64 x.d, .int .i64 x.o]
theorem Lt.wide (x : Lt) : x.cs.length = 5 := rfl
/-- An event. -/
structure Ev where
  d : Int
  k : Int
  p : ByteArray
  n : Int
  ps : Bool
  gr : Bool
def Ev.cs (x : Ev) : List Value := [.int .i64 x.d, .int .i64 x.k, .string x.p, .int .i64 x.n, .bool x.ps, .bool x.gr]
theorem Ev.wide (x : Ev) : x.cs.length = 6 := rfl
section
variable {w : World} {B n c k : Nat} {A : Option Addr}
theorem Rws.q4 {l : List Q4} (h : Rws Q4.cs 4 w B A n c l) (hk : k < n) : ∃ b o x, A = some ⟨b, o, none⟩ ∧ b < B ∧ l[k]? = some x ∧ w.cell? ⟨b, o + k * 4, none⟩ = some (.string x.s) ∧ w.cell? ⟨b, o + k * 4 + 1, none⟩ = some (.int .i64 x.a) ∧ w.cell? ⟨b, o + k * 4 + 2, none⟩ = some (.int .i64 x.b) ∧ w.cell? ⟨b, o + k * 4 + 3, none⟩ = some (.int .i64 x.c) := by
  obtain ⟨b, o, x, e, hb, hx, hc⟩ := h.at_ Q4.wide hk
  exact ⟨b, o, x, e, hb, hx, hc 0 _ rfl, hc 1 _ rfl, hc 2 _ rfl, hc 3 _ rfl⟩
theorem Rws.mv {l : List Mv} (h : Rws Mv.cs 4 w B A n c l) (hk : k < n) : ∃ b o x, A = some ⟨b, o, none⟩ ∧ b < B ∧ l[k]? = some x ∧ w.cell? ⟨b, o + k * 4, none⟩ = some (.int .i64 x.d) ∧ w.cell? ⟨b, o + k * 4 + 1, none⟩ = some (.int .i64 x.k) ∧ w.cell? ⟨b, o + k * 4 + 2, none⟩ = some (.string x.p) ∧ w.cell? ⟨b, o + k * 4 + 3, none⟩ = some (.int .i64 x.n) := by
  obtain ⟨b, o, x, e, hb, hx, hc⟩ := h.at_ Mv.wide hk
  exact ⟨b, o, x, e, hb, hx, hc 0 _ rfl, hc 1 _ rfl, hc 2 _ rfl, hc 3 _ rfl⟩
theorem Rws.lt {l : List Lt} (h : Rws Lt.cs 5 w B A n c l) (hk : k < n) : ∃ b o x, A = some ⟨b, o, none⟩ ∧ b < B ∧ l[k]? = some x ∧ w.cell? ⟨b, o + k * 5, none⟩ = some (.string x.p) ∧ w.cell? ⟨b, o + k * 5 + 1, none⟩ = some (.int .i64 x.n) ∧ w.cell? ⟨b, o + k * 5 + 2, none⟩ = some (.int .i64 x.i) ∧ w.cell? ⟨b, o + k * 5 + 3, none⟩ = some (.int .i64 x.d) ∧ w.cell? ⟨b, o + k * 5 + 4, none⟩ = some (.int .i64 x.o) := by
  obtain ⟨b, o, x, e, hb, hx, hc⟩ := h.at_ Lt.wide hk
  exact ⟨b, o, x, e, hb, hx, hc 0 _ rfl, hc 1 _ rfl, hc 2 _ rfl, hc 3 _ rfl, hc 4 _ rfl⟩
theorem Rws.ev {l : List Ev} (h : Rws Ev.cs 6 w B A n c l) (hk : k < n) : ∃ b o x, A = some ⟨b, o, none⟩ ∧ b < B ∧ l[k]? = some x ∧ w.cell? ⟨b, o + k * 6, none⟩ = some (.int .i64 x.d) ∧ w.cell? ⟨b, o + k * 6 + 1, none⟩ = some (.int .i64 x.k) ∧ w.cell? ⟨b, o + k * 6 + 2, none⟩ = some (.string x.p) ∧ w.cell? ⟨b, o + k * 6 + 3, none⟩ = some (.int .i64 x.n) ∧ w.cell? ⟨b, o + k * 6 + 4, none⟩ = some (.bool x.ps) ∧ w.cell? ⟨b, o + k * 6 + 5, none⟩ = some (.bool x.gr) := by
  obtain ⟨b, o, x, e, hb, hx, hc⟩ := h.at_ Ev.wide hk
  exact ⟨b, o, x, e, hb, hx, hc 0 _ rfl, hc 1 _ rfl, hc 2 _ rfl, hc 3 _ rfl, hc 4 _ rfl, hc 5 _ rfl⟩
end
theorem ones_of {α : Type} {f : α → List Value} (hf : ∀ x, ∀ u ∈ f x, u.oneCell' = true) (l : List α) : ∀ u ∈ l.flatMap f, u.oneCell' = true := fun u hu => by
  obtain ⟨x, -, hx⟩ := List.mem_flatMap.1 hu
  exact hf x u hx
theorem Q4.one (x : Q4) : ∀ u ∈ x.cs, u.oneCell' = true := by intro u hu; simp [Q4.cs] at hu; rcases hu with rfl | rfl | rfl | rfl <;> rfl
theorem Mv.one (x : Mv) : ∀ u ∈ x.cs, u.oneCell' = true := by intro u hu; simp [Mv.cs] at hu; rcases hu with rfl | rfl | rfl | rfl <;> rfl
theorem Lt.one (x : Lt) : ∀ u ∈ x.cs, u.oneCell' = true := by intro u hu; simp [Lt.cs] at hu; rcases hu with rfl | rfl | rfl | rfl | rfl <;> rfl
theorem Ev.one (x : Ev) : ∀ u ∈ x.cs, u.oneCell' = true := by intro u hu; simp [Ev.cs] at hu; rcases hu with rfl | rfl | rfl | rfl | rfl | rfl <;> rfl
theorem drop_step {α : Type} {l : List α} {k : Nat} {x : α} (h : l[k]? = some x) : l.drop k = x :: l.drop (k + 1) := by
  obtain ⟨hk, rfl⟩ := List.getElem?_eq_some_iff.1 h
  exact List.drop_eq_getElem_cons hk
theorem take_step {α : Type} {l : List α} {k : Nat} {x : α} (h : l[k]? = some x) : l.take (k + 1) = l.take k ++ [x] := by
  obtain ⟨hk, rfl⟩ := List.getElem?_eq_some_iff.1 h
  exact List.take_succ_eq_append_getElem hk

end Go.Proofs.Ytmcefodfppdajaa
