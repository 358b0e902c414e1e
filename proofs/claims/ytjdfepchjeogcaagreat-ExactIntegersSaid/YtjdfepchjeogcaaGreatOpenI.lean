/- Arguments that are integers, opened. -/
import Derived.Test.YtjdfepchjeogcaaGreatIntH
import Derived.Test.YtjdfepchjeogcaaGreatLift1
import Derived.Lib.SmallJoins
import Derived.Deep.Slices
import Derived.Deep.Fields
namespace Go.Proofs.YtjdfepchjeogcaaGreat
open Go.Joins Go.ChangeShapes Go.WideShapes Go.RowKit Go.Deep Go.ChangeAt

theorem spot_of_cellI {w : World} {a : Addr} {u : Value} (h : w.cell? a = some u) : a = ⟨a.block, a.off, none⟩ := by
  obtain ⟨b, o, s⟩ := a
  unfold World.cell? at h
  split at h
  · split at h
    · cases h
    · rename_i hs
      cases s with
      | none => rfl
      | some x => simp at hs
  · cases h
theorem add_plainI (b o j : Nat) : (⟨b, o, none⟩ : Addr).add j = ⟨b, o + j, none⟩ := by
  unfold Addr.add
  split
  · simp [*]
  · rfl
section
variable {H : Type} {enc : TypeId × Value → H} {P : Program} {w : World}
/-- A cell that is a slice of limbs. -/
theorem open_limbs {t e : TypeId} {fuel : Nat} {u : Value} {x : DataW H × List MemPlace} (ht : P.underlying t = some (.slice e)) (he : P.underlying e = some (.int .u32)) (hc : P.cellsOf e = 1)
    (h : DataW.trod enc P w 0 (fun _ => true) true fuel t [u] = some x) : ∃ (A : Option Addr) (n c : Nat) (l : List Nat), u = .slice A n c ∧ Lim w w.heap.size A n c l := by
  rcases open_ints ht he hc h with ⟨hcs, _⟩ | ⟨a, len, cap, zs, hcs, _, hl, hm, hz, _, hi, hwf⟩
  · have e : u = .slice none 0 0 := by simpa using hcs
    exact ⟨none, 0, 0, [], e, Lim.nil_ _ _⟩
  · have e : u = .slice (some a) len cap := by simpa using hcs
    simp only [if_true] at hz
    have hnat : ∀ z ∈ zs, 0 ≤ z ∧ z < 4294967296 := fun z hzz => by
      have := hwf z hzz
      simp only [Lit.wf, Bool.and_eq_true, decide_eq_true_eq] at this
      have h1 : IntKind.min .u32 = 0 := by decide
      have h2 : IntKind.max .u32 = 4294967295 := by decide
      omega
    refine ⟨some a, len, cap, (zs.take len).map Int.toNat, e, ⟨⟨by rw [u32s_length, List.length_map, List.length_take]; omega, hl, by simpa [maxLen] using hm, fun hn => ?_⟩, fun y hy => ?_⟩⟩
    · have ha := hi 0 (by omega)
      rw [show a.add 0 = a from rfl] at ha
      have hs := spot_of_cellI ha
      refine ⟨a.block, a.off, congrArg some hs, World.block_lt_of_cell? w _ ha, fun k v hv => ?_⟩
      rw [u32s_get?, List.getElem?_map] at hv
      have hk : k < len := by
        rcases Nat.lt_or_ge k len with h | h
        · exact h
        · rw [List.getElem?_eq_none (by rw [List.length_take]; omega)] at hv; cases hv
      have hkz : k < zs.length := by omega
      have hik := hi k hkz
      rw [hs, add_plainI] at hik
      rw [List.getElem?_take, if_pos hk, List.getElem?_eq_getElem hkz] at hv
      rw [List.getD_eq_getElem?_getD, List.getElem?_eq_getElem hkz] at hik
      have hb := hnat zs[k] (List.getElem_mem hkz)
      simp only [Option.map_some, Option.some.injEq, Option.getD_some] at hv hik
      rw [← hv, hik, Int.toNat_of_nonneg hb.1]
    · obtain ⟨z, hzz, rfl⟩ := List.mem_map.1 hy
      have := hnat z (List.mem_of_mem_take hzz)
      omega
end
set_option maxRecDepth 100000 in
/-- An argument that is an integer. -/
theorem open_I {H : Type} {enc : TypeId × Value → H} {w : World} {v : Value} {d : DataW H} {ps : List MemPlace} {r : Reach} {b0 : Nat}
    (hv : Value.okWide Tryz.prog w r b0 24 v) (h : DataW.Trod enc Tryz.prog w 0 (fun _ => true) true 24 v d ps) :
    ∃ (s : Bool) (A : Option Addr) (n c : Nat) (l : List Nat), v = .agg #[.bool s, .slice A n c] ∧ Lim w w.heap.size A n c l := by
  obtain ⟨f0, f1, hu, ho, t0, t1⟩ : ∃ f0 f1, Tryz.prog.underlying 24 = some (.struct #[f0, f1]) ∧ oneCellFields Tryz.prog #[f0, f1] = true ∧ f0.type = 4 ∧ f1.type = 22 :=
    ⟨(Tryz.prog.fieldsOf 24)[0]!, (Tryz.prog.fieldsOf 24)[1]!, by kernel_rfl, by kernel_rfl, by kernel_rfl, by kernel_rfl⟩
  obtain ⟨u0, u1, y0, y1, fl, rfl, -, -, k0, k1⟩ := open_agg2 hu ho (by kernel_rfl) hv h
  rw [t0] at k0
  rw [t1] at k1
  obtain ⟨s, e0, -⟩ := DataW.trod_bool Tryz.underlying4 k0
  obtain ⟨A, n, c, l, e1, hl⟩ := open_limbs Tryz.underlying22 Tryz.underlying73 (by kernel_rfl) k1
  have e0' : u0 = .bool s := by simpa using e0
  subst e0'; subst e1
  exact ⟨s, A, n, c, l, rfl, hl⟩

end Go.Proofs.YtjdfepchjeogcaaGreat
