/- Symbolic run of single operations: rows written out, parts of values, append, copy. No program is named here. -/
import Derived.Test.YtfnphhmcbdoojaaGreatDoorSimE
import Derived.Deep.AppendSrc
set_option linter.unusedSimpArgs false
namespace Go.Proofs.YtfnphhmcbdoojaaGreatDoor.Sim
open Go Go.RowKit Go.WideShapes

noncomputable section
variable {P : Program}
def szeros (z : Value) (n : Nat) : List Value := ((Array.range n).map ((if n = 0 then #[] else z.cells)[· % (if n = 0 then #[] else z.cells).size]!)).toList
theorem szeros_lit {ρ : Rn} {z : Value} (h : isLit z = true) (n : Nat) : LR ρ (szeros z n) (szeros z n) := LR.lits (by
  rw [List.all_eq_true]
  intro x hx
  obtain ⟨j, hj, rfl⟩ := Array.mem_map.1 (Array.mem_toList_iff.1 hx)
  have hj : j < n := by simpa using hj
  have hne : ¬ n = 0 := by omega
  simp only [hne, if_false]
  by_cases hz0 : j % z.cells.size < z.cells.size
  · rw [getElem!_pos z.cells (j % z.cells.size) hz0]
    exact List.all_eq_true.1 (lit_cells h) _ (by simp)
  · rw [getElem!_neg z.cells (j % z.cells.size) hz0]
    rfl)
def sbslice (P : Program) (nm : Nat) (t : TypeId) (len : Nat) (ps : List (Nat × Value)) (H : Heap) : Option (Value × Heap) :=
  match und P t with
  | some (.slice e) => match inf P e with
    | some i => match i.zero with
      | some z => match isLit z, Nat.ble (len * i.size) 16777216, Nat.ble (len + 1) UNK, sfill (fun k => some (k * i.size, i.size)) (szeros z (len * i.size)) ps with
        | true, true, true, some out => match snew nm e out H with
          | some H' => some (.slice (some ⟨nm, 0, none⟩) len len, H')
          | none => none
        | _, _, _, _ => none
      | none => none
    | none => none
  | _ => none
theorem sbslice_ok {n0 : Nat} {ρ : Rn} {H H' : Heap} {W : World} {nm : Nat} {t : TypeId} {len : Nat} {ps : List (Nat × Value)} {qs : Array (Nat × Value)} {u : Value} (hs : sbslice P nm t len ps H = some (u, H')) (hp : PR ρ ps qs.toList) (h : HR P n0 ρ H W) (h0 : n0 ≤ W.heap.size) :
    ∃ ρ' W' u', (Instr.buildSlice t len qs).run P W = .ok u' W' ∧ VR ρ' u u' ∧ Okay P n0 ρ H W H' [] ρ' W' := by
  unfold sbslice at hs
  simp only [inf_eq, und_eq, fun1_eq] at hs
  split at hs
  · rename_i e hu
    split at hs
    · rename_i i hi
      split at hs
      · rename_i z hz
        split at hs
        · rename_i out hzl hle hlu hf
          split at hs
          · rename_i H2 hn
            cases hs
            obtain ⟨es, k1, k2⟩ := sfill_ok (ρ := ρ) (ds := (Array.range (len * i.size)).map ((if len * i.size = 0 then #[] else z.cells)[· % (if len * i.size = 0 then #[] else z.cells).size]!)) _ hp (szeros_lit hzl _) hf
            obtain ⟨ρ', g1, g2⟩ := snew_ok hn k2 h h0 []
            rw [List.append_nil, Array.toArray_toList] at g2
            refine ⟨ρ', _, .slice (some ⟨W.heap.size, 0, none⟩) len len, ?_, ?_, g2⟩
            · have e4 : ¬ 16777216 < len * i.size := by have := Nat.le_of_ble_eq_true hle; omega
              by_cases hz0 : len * i.size = 0
              · simp only [hz0, if_true] at k1
                simp [Instr.buildSlice, run_underlying hu, size_get hi, hz0, newRow]
                simp at k1
                simp [k1]
              · simp only [hz0, if_false] at k1
                simp [Instr.buildSlice, run_underlying hu, size_get hi, zero_get hi hz, e4, hz0, k1, newRow]
            · have := VR.slice (o := 0) (n := len) (c := len) g1 (by have := Nat.le_of_ble_eq_true hlu; omega)
              simpa using this
          · cases hs
        · cases hs
      · cases hs
    · cases hs
  · cases hs

/-- A part of a composite value. -/
def spart (P : Program) (t : TypeId) (cs : List Value) (off : Nat) : Option Value :=
  match und P t, inf P t with
  | some d, some i => match isAggD d with
    | true => some (.agg ((cs.drop off).take i.size).toArray)
    | false => cs[off]?
  | _, _ => none
theorem spart_ok {ρ : Rn} {t : TypeId} {cs : List Value} {ds : Array Value} {off : Nat} {u : Value} (hs : spart P t cs off = some u) (h : LR ρ cs ds.toList) : ∃ u', (∀ W : World, (part t ds off).run P W = .ok u' W) ∧ VR ρ u u' := by
  unfold spart at hs
  simp only [inf_eq, und_eq, fun1_eq] at hs
  split at hs
  · rename_i d i hu hi
    split at hs
    · rename_i hd
      cases hs
      refine ⟨.agg (ds.extract off (off + i.size)), fun W => ?_, ?_⟩
      · simp [part, agg_get hu, hd, size_get hi]
      · have := VR.agg_ ((h.drop off).take i.size)
        have e : (List.take i.size (List.drop off ds.toList)).toArray = ds.extract off (off + i.size) := by
          apply Array.ext'
          simp
        rw [← e]
        exact this
    · rename_i hd
      obtain ⟨u', a, b⟩ := h.get hs
      refine ⟨u', fun W => ?_, b⟩
      rw [Array.getElem?_toList] at a
      simp [part, agg_get hu, hd, a]
  · cases hs
def sgetf (P : Program) (t : TypeId) (v : Value) (f : Nat) : Option Value :=
  match und P t, v with
  | some (.struct fs), .agg cs => match fs[f]? with
    | some fd => spart P fd.type cs.toList fd.offset
    | none => none
  | _, _ => none
theorem sgetf_ok {ρ : Rn} {t : TypeId} {v v' u : Value} {f : Nat} (hs : sgetf P t v f = some u) (hv : VR ρ v v') : ∃ u', (∀ W : World, (Instr.field t v' f).run P W = .ok u' W) ∧ VR ρ u u' := by
  unfold sgetf at hs
  simp only [inf_eq, und_eq, fun1_eq] at hs
  split at hs
  · rename_i fs cs hu
    obtain ⟨ds, rfl, hl⟩ := hv.agg_inv
    split at hs
    · rename_i fd hf
      obtain ⟨u', k1, k2⟩ := spart_ok hs hl
      exact ⟨u', fun W => by simp [Instr.field, run_underlying hu, hf, asAgg, k1], k2⟩
    · cases hs
  · cases hs
def sidx (P : Program) (t : TypeId) (v ix : Value) : Option Value :=
  match ix, und P t, v with
  | .int _ i, some (.array len e), .agg cs => match inf P e, decide (0 ≤ i ∧ i < len) with
    | some fi, true => spart P e cs.toList (i.toNat * fi.size)
    | _, _ => none
  | _, _, _ => none
theorem sidx_ok {ρ : Rn} {t : TypeId} {v v' ix ix' u : Value} (hs : sidx P t v ix = some u) (hv : VR ρ v v') (hx : VR ρ ix ix') : ∃ u', (∀ W : World, (Instr.index t v' ix').run P W = .ok u' W) ∧ VR ρ u u' := by
  unfold sidx at hs
  simp only [inf_eq, und_eq, fun1_eq] at hs
  split at hs
  · rename_i k i len e cs hu
    have := hx.int_inv
    subst this
    obtain ⟨ds, rfl, hl⟩ := hv.agg_inv
    split at hs
    · rename_i fi hi hd
      have hd := of_decide_eq_true hd
      obtain ⟨u', k1, k2⟩ := spart_ok hs hl
      exact ⟨u', fun W => by simp [Instr.index, asIntOf, run_underlying hu, hd, size_get hi, k1], k2⟩
    · cases hs
  · cases hs
def sextract (v : Value) (k : Nat) : Option Value :=
  match v with
  | .tuple vs => vs.toList[k]?
  | _ => none
theorem sextract_ok {ρ : Rn} {v v' u : Value} {k : Nat} (hs : sextract v k = some u) (hv : VR ρ v v') : ∃ u', (∀ W : World, (Instr.extract v' k).run P W = .ok u' W) ∧ VR ρ u u' := by
  unfold sextract at hs
  split at hs
  · obtain ⟨ds, rfl, hl⟩ := hv.tuple_inv
    obtain ⟨u', a, b⟩ := hl.get hs
    refine ⟨u', fun W => ?_, b⟩
    rw [Array.getElem?_toList] at a
    simp [Instr.extract, a]
  · cases hs

end
end Go.Proofs.YtfnphhmcbdoojaaGreatDoor.Sim
