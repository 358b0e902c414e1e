/- Structs of five and six one-cell fields, by value, opened. No program is named here. -/
import Derived.Test.YtgljncfijcamhaaGreatDoorCells
import Derived.Lib.SmallJoins
namespace Go.Proofs.YtgljncfijcamhaaGreatDoor
open Go.Joins Go.ChangeShapes Go.WideShapes Go.RowKit Go.Deep
/-- The number of a value. -/
def numOf : Value → Int
  | .int _ z => z
  | _ => 0
theorem six_of {l : List Int} (h : l.length = 6) : ∃ a b c d e f, l = [a, b, c, d, e, f] := by
  match l, h with
  | [a, b, c, d, e, f], _ => exact ⟨a, b, c, d, e, f, rfl⟩
theorem three_of {l : List Int} (h : l.length = 3) : ∃ a b c, l = [a, b, c] := by
  match l, h with
  | [a, b, c], _ => exact ⟨a, b, c, rfl⟩
theorem two_of {l : List Int} (h : l.length = 2) : ∃ a b, l = [a, b] := by
  match l, h with
  | [a, b], _ => exact ⟨a, b, rfl⟩
section
variable {H : Type} {enc : TypeId × Value → H} {P : Program} {w : World} {base : Nat} {spare : Nat → Bool} {held : Bool}
/-- A struct of ints, by value: its numbers. -/
theorem open_ints_fields {t ti : TypeId} {fs : Array Field} {v : Value} {d : DataW H} {p : List MemPlace} {r : Reach} {b0 : Nat} (hs : P.underlying t = some (.struct fs)) (hone : oneCellFields P fs = true) (hC : P.cellsOf t = fs.size)
    (hty : ∀ (j : Nat) (f : Field), fs[j]? = some f → f.type = ti) (hti : P.underlying ti = some (.int .i64)) (hv : Value.okWide P w r b0 t v) (h : DataW.Trod enc P w base spare held t v d p) :
    ∃ l : List Int, l.length = fs.size ∧ v = .agg (l.map (Value.int .i64)).toArray := by
  obtain ⟨cs, rfl, hsz⟩ := okWide_struct hs hv
  obtain ⟨fuel, hf⟩ := h
  obtain ⟨xs, n, _, hx, _, hlen, hg⟩ := DataW.trod_struct hs hf
  have hcs : ∀ j, j < fs.size → ∃ z, cs[j]? = some (.int .i64 z) := by
    intro j hj
    have hfj : fs[j]? = some fs[j] := by simp [hj]
    obtain ⟨o, k⟩ := hone_of hone j fs[j] hfj
    have h1 := hg j fs[j] hfj
    have hjc : j < cs.size := by rw [hsz, hC]; exact hj
    rw [o, k, hty j _ hfj] at h1
    have hone' : (((Value.agg cs).cells.toList.drop j).take 1) = [cs[j]] := by
      rw [show (Value.agg cs).cells = cs from rfl, List.drop_eq_getElem_cons (by simpa using hjc)]
      simp
    rw [hone'] at h1
    have hxs : xs[j]? = some (xs[j]'(by omega)) := List.getElem?_eq_getElem (by omega)
    rw [hxs] at h1
    obtain ⟨z, e, _, _⟩ := DataW.trod_int hti h1
    simp only [List.cons.injEq, and_true] at e
    exact ⟨z, by rw [Array.getElem?_eq_getElem hjc, e]⟩
  refine ⟨(List.range fs.size).map fun j => numOf (cs.getD j undef), by simp, ?_⟩
  congr 1
  apply Array.ext
  · simp [hsz, hC]
  · intro j h1 h2
    obtain ⟨z, hz⟩ := hcs j (by rw [← hC, ← hsz]; exact h1)
    have hz' : cs[j] = .int .i64 z := by rw [Array.getElem?_eq_getElem h1] at hz; exact Option.some.inj hz
    simp [hz', numOf, h1]
end

end Go.Proofs.YtgljncfijcamhaaGreatDoor
