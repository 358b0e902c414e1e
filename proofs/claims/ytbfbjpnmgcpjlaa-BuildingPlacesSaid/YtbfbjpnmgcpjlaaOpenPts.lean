/- An argument that is a slice of points, opened. No program is named here. -/
import Derived.Test.YtbfbjpnmgcpjlaaAgg6
import Derived.Test.YtbfbjpnmgcpjlaaPts
import Derived.Deep.Slices
import Derived.Deep.Fields
namespace Go.Proofs.Ytbfbjpnmgcpjlaa
open Go.Joins Go.ChangeShapes Go.WideShapes Go.RowKit Go.Deep

theorem spot_of_cell {w : World} {a : Addr} {u : Value} (h : w.cell? a = some u) : a = ⟨a.block, a.off, none⟩ := by
  obtain ⟨b, o, s⟩ := a
  unfold World.cell? at h
  split at h
  · split at h
    · cases h
    · rename_i hs
      cases s with
      | none => rfl
      | some x => simp at hs
  · cases h
theorem add_at (b o j : Nat) : (⟨b, o, none⟩ : Addr).add j = ⟨b, o + j, none⟩ := by
  unfold Addr.add
  split
  · simp [*]
  · rfl
theorem list_of_fn {α : Type} (d : α) {n : Nat} {p : Nat → α → Prop} (h : ∀ i, i < n → ∃ x, p i x) : ∃ l : List α, l.length = n ∧ ∀ i x, l[i]? = some x → p i x := by
  classical
  refine ⟨(List.range n).map fun i => if hi : i < n then Classical.choose (h i hi) else d, by simp, fun i x hx => ?_⟩
  rw [List.getElem?_map] at hx
  by_cases hi : i < n
  · rw [List.getElem?_range hi] at hx
    simp only [Option.map_some, Option.some.injEq, dif_pos hi] at hx
    rw [← hx]
    exact Classical.choose_spec (h i hi)
  · rw [List.getElem?_eq_none (by simpa using hi)] at hx
    cases hx

section
variable {H : Type} {enc : TypeId × Value → H} {P : Program} {w : World}
/-- An argument that is a slice of points: its points. -/
theorem open_points {t e ti : TypeId} {f0 f1 : Field} {v : Value} {d : DataW H} {ps : List MemPlace} {r : Reach} {b0 : Nat} (ht : P.underlying t = some (.slice e)) (he : P.underlying e = some (.struct #[f0, f1])) (hone : oneCellFields P #[f0, f1] = true) (hC : P.cellsOf e = 2)
    (ht0 : f0.type = ti) (ht1 : f1.type = ti) (hti : P.underlying ti = some (.int .i64)) (hv : Value.okWide P w r b0 t v) (h : DataW.Trod enc P w 0 (fun _ => true) true t v d ps) :
    ∃ (A : Option Addr) (n c : Nat) (l : List (Int × Int)), v = .slice A n c ∧ Pts w w.heap.size A n c l ∧ (A = none → n = 0 ∧ c = 0) := by
  obtain ⟨A, n, c, rfl⟩ := okWide_slice ht hv
  obtain ⟨fuel, hf⟩ := h
  rcases open_slice ht hf with ⟨hcs, _⟩ | ⟨a, len, cap, m, n', D, Pl, hcs, _, hl, hm, hmm, _, hi⟩
  · have e : Value.slice A n c = .slice none 0 0 := by simpa [Value.cells] using hcs
    injection e with e1 e2 e3
    subst e1; subst e2; subst e3
    exact ⟨none, 0, 0, [], rfl, ⟨Sl.nil_ _ _ _⟩, fun _ => ⟨rfl, rfl⟩⟩
  · have e : Value.slice A n c = .slice (some a) len cap := by simpa [Value.cells] using hcs
    injection e with e1 e2 e3
    subst e1; subst e2; subst e3
    simp only [if_true] at hmm
    subst hmm
    have key : ∀ i, i < n → ∃ p : Int × Int, w.cell? (a.add (i * 2)) = some (.int .i64 p.1) ∧ w.cell? (a.add (i * 2 + 1)) = some (.int .i64 p.2) := by
      intro i hin
      obtain ⟨cs', hc, ht'⟩ := hi i (by omega)
      rw [hC] at hc
      obtain ⟨ys, n2, _, _, hlen, _, hg⟩ := DataW.trod_struct he ht'
      obtain ⟨_, hcl, hat⟩ := World.cells?_some hc
      obtain ⟨o0, k0⟩ := hone_of hone 0 f0 rfl
      obtain ⟨o1, k1⟩ := hone_of hone 1 f1 rfl
      match cs', hcl with
      | [u0, u1], _ =>
        have g0 := hg 0 f0 rfl
        have g1 := hg 1 f1 rfl
        rw [o0, k0, ht0] at g0
        rw [o1, k1, ht1] at g1
        match ys, hlen with
        | [y0, y1], _ =>
          obtain ⟨z0, e0, _, _⟩ := DataW.trod_int hti g0
          obtain ⟨z1, e1, _, _⟩ := DataW.trod_int hti g1
          have e0' : u0 = .int .i64 z0 := by simpa using e0
          have e1' : u1 = .int .i64 z1 := by simpa using e1
          refine ⟨(z0, z1), ?_, ?_⟩
          · have := hat 0 (by omega)
            rw [add_add] at this
            simpa [e0'] using this
          · have := hat 1 (by omega)
            rw [add_add] at this
            simpa [e1'] using this
    obtain ⟨l, hll, hlp⟩ := list_of_fn ((0, 0) : Int × Int) key
    refine ⟨some a, _, _, l, rfl, ⟨⟨by rw [pcells_length, hll], hl, by simpa [maxLen] using hm, fun hn => ?_⟩⟩, fun h => by cases h⟩
    have ha := (hlp 0 (l[0]'(by omega)) (List.getElem?_eq_getElem (by omega))).1
    rw [Nat.zero_mul, show a.add 0 = a from rfl] at ha
    have hs := spot_of_cell ha
    refine ⟨a.block, a.off, congrArg some hs, World.block_lt_of_cell? w _ ha, fun k u hu => ?_⟩
    have hk : k < (pcells l).length := (List.getElem?_eq_some_iff.1 hu).1
    rw [pcells_length] at hk
    have hg := pcells_get l (k / 2)
    have hq : l[k / 2]? = some (l[k / 2]'(by omega)) := List.getElem?_eq_getElem (by omega)
    obtain ⟨p0, p1⟩ := hlp _ _ hq
    rw [hq] at hg
    rcases Nat.mod_two_eq_zero_or_one k with h0 | h0
    · have ek : k = k / 2 * 2 := by omega
      rw [ek, hg.1] at hu
      rw [hs, add_at] at p0
      rw [ek, ← Option.some.inj hu]
      exact p0
    · have ek : k = k / 2 * 2 + 1 := by omega
      rw [ek, hg.2] at hu
      rw [hs, add_at] at p1
      rw [ek, ← Option.some.inj hu]
      exact p1
end

end Go.Proofs.Ytbfbjpnmgcpjlaa
