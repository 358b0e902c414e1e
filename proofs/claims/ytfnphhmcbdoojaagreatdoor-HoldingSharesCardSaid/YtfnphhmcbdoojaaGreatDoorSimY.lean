/- Symbolic run: entries that are stored, taken away, counted. No program is named here. -/
import Derived.Test.YtfnphhmcbdoojaaGreatDoorSimX
set_option linter.unusedSimpArgs false
namespace Go.Proofs.YtfnphhmcbdoojaaGreatDoor.Sim
open Go Go.RowKit Go.WideShapes

noncomputable section
variable {P : Program}
theorem EL.borns {ρ : Rn} {es : List (Value × Value × Nat)} {fs : List MapEntry} (h : EL ρ es fs) : fs.map (·.born) = es.map (·.2.2) := by
  refine List.ext_getElem? fun i => ?_
  rw [List.getElem?_map, List.getElem?_map]
  cases he : es[i]? with
  | none =>
    have hl := h.1
    have : fs[i]? = none := by simp at he ⊢; omega
    rw [this]
    rfl
  | some e =>
    obtain ⟨f, h1, -, -, h4⟩ := h.get he
    rw [h1]
    simp [h4]
def sentryStore (m s v : Value) (H : Heap) : Option (Heap × List Nat) :=
  match sents m H, s with
  | some (b, es, c), .int _ n => match (es.map fun e => e.2.2).findIdx? (fun (x : Nat) => (x : Int) == n) with
    | some i => match es[i]? with
      | some e => some (hset H b (.map (es.set i (e.1, v, e.2.2)) c), [b])
      | none => none
    | none => none
  | _, _ => none
theorem sentryStore_ok {n0 : Nat} {ρ : Rn} {H H' : Heap} {W : World} {t : TypeId} {m m' s s' v v' : Value} {wr : List Nat} (hs : sentryStore m s v H = some (H', wr)) (hm : VR ρ m m') (hk : VR ρ s s') (hv : VR ρ v v') (h : HR P n0 ρ H W) :
    ∃ W', (Instr.entryStore t m' s' v').run P W = .ok () W' ∧ Okay P n0 ρ H W H' wr ρ W' := by
  unfold sentryStore at hs
  split at hs
  · rename_i b es c k n he
    have := hk.lit_eq rfl
    subst this
    obtain ⟨L, fs, rfl, hL, hb, hW, hE⟩ := sents_ok he hm h
    split at hs
    · rename_i i hi
      split at hs
      · rename_i e hei
        cases hs
        obtain ⟨f, f1, f2, f3, f4⟩ := hE.get hei
        rw [Array.getElem?_toList] at f1
        have hidx : fs.findIdx? (fun e => (e.born : Int) == n) = some i := by
          rw [← hE.borns, List.findIdx?_map] at hi
          obtain ⟨l⟩ := fs
          rw [List.findIdx?_toArray]
          exact hi
        refine ⟨_, ?_, h.mapset hb hL (hE.set hei (e' := (e.1, v, e.2.2)) (g := fun e => { e with val := v' }) fun f' hf' => ?_)⟩
        · simp [Instr.entryStore, Sem.run_bind, run_getObj_map W L.x fs c hW, asInt, asIntOf, hidx, setMap_run _ hW]
        · rw [f1] at hf'
          cases hf'
          exact ⟨f2, hv, f4⟩
      · cases hs
    · cases hs
  · cases hs
theorem EL.erase {ρ : Rn} {es : List (Value × Value × Nat)} {fs : Array MapEntry} (h : EL ρ es fs.toList) {i : Nat} (hi : i < es.length) : EL ρ (es.eraseIdx i) (fs.eraseIdxIfInBounds i).toList := by
  have hl := h.1
  have hif : i < fs.size := by simp at hl; omega
  rw [Array.eraseIdxIfInBounds, dif_pos hif, Array.toList_eraseIdx]
  refine ⟨by simp [List.length_eraseIdx, hl], fun j a b ha hb => ?_⟩
  rw [List.getElem?_eraseIdx] at ha hb
  split at ha
  · rename_i hj
    rw [if_pos hj] at hb
    exact h.2 j a b ha hb
  · rename_i hj
    rw [if_neg hj] at hb
    exact h.2 (j + 1) a b ha hb
def sdelete (P : Program) (t : TypeId) (m k : Value) (H : Heap) : Option (Value × Heap × List Nat) :=
  match und P t, isLit k, sents m H with
  | some (.map kt _), true, some (b, es, c) => match skey P es.isEmpty kt k, pv P (Instr.findKey kt k (ents es)) with
    | true, some (some (i, _)) => match Nat.ble (i + 1) es.length with
      | true => some (.tuple #[], hset H b (.map (es.eraseIdx i) c), [b])
      | false => none
    | true, some none => some (.tuple #[], hset H b (.map es c), [b])
    | _, _ => none
  | _, _, _ => none
theorem sdelete_ok {n0 : Nat} {ρ : Rn} {H H' : Heap} {W : World} {t tk ty : TypeId} {m m' k k' u : Value} {wr : List Nat} (hs : sdelete P t m k H = some (u, H', wr)) (hm : VR ρ m m') (hk : VR ρ k k') (h : HR P n0 ρ H W) :
    ∃ W', (Builtin.delete_ #[t, tk] ty #[m', k']).run P W = .ok u W' ∧ isLit u = true ∧ Okay P n0 ρ H W H' wr ρ W' := by
  unfold sdelete at hs
  simp only [inf_eq, und_eq] at hs
  split at hs
  · rename_i kt et b es c ht hl he
    have := hk.lit_eq hl
    subst this
    obtain ⟨L, fs, rfl, hL, hb, hW, hE⟩ := sents_ok he hm h
    have hemp : fs.isEmpty = es.isEmpty := by
      have e := hE.1
      rw [← Array.isEmpty_toList]
      cases es <;> cases hf : fs.toList <;> simp [hf] at e ⊢
    split at hs
    · rename_i i v hq hf
      rw [← hemp] at hq
      have q1 := skey_run hq W
      obtain ⟨r', g1, g2⟩ := findKey_rel (W := W) hE hf
      split at hs
      · rename_i hle
        cases hs
        rcases g2 with ⟨e1, -⟩ | ⟨i2, v2, v3, e1, rfl, e3⟩
        · cases e1
        · cases e1
          refine ⟨_, ?_, rfl, h.mapset hb hL (hE.erase (Nat.le_of_ble_eq_true hle))⟩
          simp [Builtin.delete_, Sem.run_bind, run_underlying ht, run_getObj_map W L.x fs c hW, q1, g1, setMap_run _ hW]
      · cases hs
    · rename_i hq hf
      cases hs
      rw [← hemp] at hq
      have q1 := skey_run hq W
      obtain ⟨r', g1, g2⟩ := findKey_rel (W := W) hE hf
      rcases g2 with ⟨-, rfl⟩ | ⟨i2, v2, v3, e1, -, -⟩
      · refine ⟨_, ?_, rfl, h.mapset hb hL hE⟩
        simp [Builtin.delete_, Sem.run_bind, run_underlying ht, run_getObj_map W L.x fs c hW, q1, g1, setMap_run _ hW]
      · cases e1
    · cases hs
  · cases hs
end
end Go.Proofs.YtfnphhmcbdoojaaGreatDoor.Sim
