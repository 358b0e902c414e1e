/- Arguments of chapter 6, opened: grids, rows of small structs of numbers. No program is named here. -/
import Derived.Test.YtgljncfijcamhaaGreatDoorAgg6
import Derived.Deep.Slices
import Derived.Deep.Fields
namespace Go.Proofs.YtgljncfijcamhaaGreatDoor
open Go.Joins Go.ChangeShapes Go.WideShapes Go.RowKit Go.Deep

theorem spot_of_cell {w : World} {a : Addr} {u : Value} (h : w.cell? a = some u) : a = ⟨a.block, a.off, none⟩ := by
  obtain ⟨b, o, s⟩ := a
  unfold World.cell? at h
  split at h
  · split at h
    · cases h
    · rename_i hs
      cases s with
      | none => rfl
      | some x => simp at hs
  · cases h
section
variable {H : Type} {enc : TypeId × Value → H} {P : Program} {w : World}
/-- A cell that is a slice of numbers. -/
theorem open_nums {t e : TypeId} {fuel : Nat} {u : Value} {x : DataW H × List MemPlace} (ht : P.underlying t = some (.slice e)) (he : P.underlying e = some (.int .i64)) (hc : P.cellsOf e = 1)
    (h : DataW.trod enc P w 0 (fun _ => true) true fuel t [u] = some x) : ∃ (A : Option Addr) (n c : Nat) (l : List Int), u = .slice A n c ∧ Nums w w.heap.size A n c l ∧ (A = none → n = 0 ∧ c = 0) := by
  rcases open_ints ht he hc h with ⟨hcs, _⟩ | ⟨a, len, cap, zs, hcs, _, hl, hm, hz, _, hi, _⟩
  · have e : u = .slice none 0 0 := by simpa using hcs
    exact ⟨none, 0, 0, [], e, ⟨Sl.nil_ _ _ _⟩, fun _ => ⟨rfl, rfl⟩⟩
  · have e : u = .slice (some a) len cap := by simpa using hcs
    simp only [if_true] at hz
    refine ⟨some a, len, cap, zs.take len, e, ⟨⟨by rw [i64s_length, List.length_take]; omega, hl, by simpa [maxLen] using hm, fun hn => ?_⟩⟩, fun h => by cases h⟩
    have ha := hi 0 (by omega)
    rw [show a.add 0 = a from rfl] at ha
    have hs := spot_of_cell ha
    refine ⟨a.block, a.off, congrArg some hs, World.block_lt_of_cell? w _ ha, fun k v hv => ?_⟩
    rw [i64s_get?] at hv
    have hk : k < len := by
      rcases Nat.lt_or_ge k len with h | h
      · exact h
      · rw [List.getElem?_eq_none (by rw [List.length_take]; omega)] at hv; cases hv
    have hik := hi k (by omega)
    rw [hs, add_plain] at hik
    rw [List.getElem?_take, if_pos hk, List.getElem?_eq_getElem (by omega)] at hv
    rw [List.getD_eq_getElem?_getD, List.getElem?_eq_getElem (by omega)] at hik
    simpa using hik.trans (by simpa using hv)
/-- An argument that is a struct of a number and two slices of numbers. -/
theorem open_grid {t ts e ti : TypeId} {f0 f1 f2 : Field} {v : Value} {d : DataW H} {ps : List MemPlace} {r : Reach} {b0 : Nat} (hs : P.underlying t = some (.struct #[f0, f1, f2])) (hone : oneCellFields P #[f0, f1, f2] = true) (hC : P.cellsOf t = 3)
    (t0 : f0.type = ti) (t1 : f1.type = ts) (t2 : f2.type = ts) (hts : P.underlying ts = some (.slice e)) (hec : P.cellsOf e = 1) (he : P.underlying e = some (.int .i64)) (hti : P.underlying ti = some (.int .i64))
    (hv : Value.okWide P w r b0 t v) (h : DataW.Trod enc P w 0 (fun _ => true) true t v d ps) :
    ∃ (f : Int) (A : Option Addr) (n c : Nat) (A2 : Option Addr) (n2 c2 : Nat) (a lv : List Int), v = .agg #[.int .i64 f, .slice A n c, .slice A2 n2 c2] ∧ Nums w w.heap.size A n c a ∧ Nums w w.heap.size A2 n2 c2 lv := by
  obtain ⟨cs, rfl, hsz⟩ := okWide_struct hs hv
  obtain ⟨fuel, hf⟩ := h
  obtain ⟨xs, n, _, _, _, hlen, hg⟩ := DataW.trod_struct hs hf
  rw [hC] at hsz
  obtain ⟨l, rfl⟩ : ∃ l : List Value, cs = l.toArray := ⟨cs.toList, by simp⟩
  simp only [List.size_toArray] at hsz hlen
  match l, hsz, xs, hlen with
  | [u0, u1, u2], _, [x0, x1, x2], _ =>
    obtain ⟨o0, k0⟩ := hone_of hone 0 f0 rfl
    obtain ⟨o1, k1⟩ := hone_of hone 1 f1 rfl
    obtain ⟨o2, k2⟩ := hone_of hone 2 f2 rfl
    have g0 := hg 0 f0 rfl
    have g1 := hg 1 f1 rfl
    have g2 := hg 2 f2 rfl
    rw [o0, k0, t0] at g0
    rw [o1, k1, t1] at g1
    rw [o2, k2, t2] at g2
    obtain ⟨A, m, c, la, e0, h0, -⟩ := open_nums (u := u1) hts he hec g1
    obtain ⟨A2, m2, c2, lb, e1, h1, -⟩ := open_nums (u := u2) hts he hec g2
    obtain ⟨z2, e2, _, _⟩ := DataW.trod_int hti g0
    have e2' : u0 = .int .i64 z2 := by
      have e : [u0] = [Value.int .i64 z2] := e2
      simpa using e
    subst e0; subst e1; subst e2'
    exact ⟨z2, A, m, c, A2, m2, c2, la, lb, rfl, h0, h1⟩
end

end Go.Proofs.YtgljncfijcamhaaGreatDoor
