/- Walks: Ways of the program. -/
import Derived.Test.YtkcbfkflkepfeaaLenErr
import Derived.Test.YtkcbfkflkepfeaaMade
namespace Go.Proofs.Ytkcbfkflkepfeaa
open Go.RowKit

def Sys.waysR (s : Sys) (x : Int) : Int × Int := if s.bothErr x ≠ 0 then (0, s.bothErr x) else s.ways x
theorem Same.only {pb g : Nat} {a b : World} (h : Only g a b) (hne : pb ≠ g) : Same pb a b := fun _ => World.cell?_of_block (h.block pb hne)
theorem ways_take {ps : List Part} {c : List Int} {j : Nat} {q : Part} (h : ps[j]? = some q) : waysOf (ps.take (j + 1)) c = wayPart (waysOf (ps.take j) c) q.units.toNat := by
  obtain ⟨hk, rfl⟩ := List.getElem?_eq_some_iff.1 h
  unfold waysOf
  rw [List.take_succ_eq_append_getElem hk, List.foldl_append]
  rfl
theorem bk_at {w : World} {g t : Nat} {l : List Int} (h : Bk w g t (i64s l).toArray) {k : Nat} (hk : k < l.length) : w.cell? ⟨g, k, none⟩ = some (.int .i64 (l.getD k 0)) ∧ w.frozen? ⟨g, k, none⟩ = false := by
  refine ⟨?_, h.frozen k⟩
  rw [h.cell]
  simp only [List.getElem?_toArray, i64s_get?, List.getElem?_eq_getElem hk, List.getD_eq_getElem?_getD]
  rfl
theorem bk_set {w : World} {g t : Nat} {l : List Int} (h : Bk w g t (i64s l).toArray) (k : Nat) (x : Int) : Bk (w.setCell ⟨g, k, none⟩ (.int .i64 x)) g t (i64s (l.set k x)).toArray := by
  have := h.set_ k (.int .i64 x)
  simpa [i64s, List.map_set] using this
theorem zs_i64s (n : Nat) : zs n = i64s (List.replicate n 0) := by simp [zs, i64s]
theorem ways0_eq (n : Nat) : ways0 n = (List.replicate (n + 1) 0).set 0 1 := by simp [ways0, List.replicate_succ]

end Go.Proofs.Ytkcbfkflkepfeaa
