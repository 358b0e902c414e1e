/- Symbolic run of single operations: composite values, append, copy. No program is named here. -/
import Derived.Test.YtfnphhmcbdoojaaGreatDoorSimD
set_option linter.unusedSimpArgs false
namespace Go.Proofs.YtfnphhmcbdoojaaGreatDoor.Sim
open Go Go.RowKit Go.WideShapes

noncomputable section
variable {P : Program}
def put1 (off : Nat) : List Value → Nat → List Value → List Value
  | [], _, cs => cs
  | v :: r, j, cs => put1 off r (j + 1) (cs.set (off + j) v)
theorem put1_eq (off : Nat) : ∀ (vs : List Value) (j : Nat) (cs : Array Value), ((vs.zipIdx j).foldl (fun cs (c, j) => cs.setIfInBounds (off + j) c) cs).toList = put1 off vs j cs.toList
  | [], _, _ => rfl
  | v :: r, j, cs => by
    simp only [List.zipIdx_cons, List.foldl_cons, put1]
    rw [put1_eq off r (j + 1)]
    simp
theorem put1_rel {ρ : Rn} (off : Nat) : ∀ {vs vs' : List Value} (j : Nat) {cs cs' : List Value}, LR ρ vs vs' → LR ρ cs cs' → LR ρ (put1 off vs j cs) (put1 off vs' j cs')
  | [], [], _, _, _, _, h => h
  | v :: r, v' :: r', j, _, _, hv, h => by
    refine put1_rel off (j + 1) ⟨by have := hv.1; simp at this; exact this, fun i a b x y => hv.2 (i + 1) a b (by simpa using x) (by simpa using y)⟩ (h.set (off + j) (hv.2 0 v v' rfl rfl))
  | [], _ :: _, _, _, _, hv, _ => by have := hv.1; simp at this
  | _ :: _, [], _, _, _, hv, _ => by have := hv.1; simp at this
theorem put1_length (off : Nat) : ∀ (vs : List Value) (j : Nat) (cs : List Value), (put1 off vs j cs).length = cs.length
  | [], _, _ => rfl
  | v :: r, j, cs => by simp only [put1]; rw [put1_length off r (j + 1)]; simp
/-- Parts filled in. -/
def sfill (place : Nat → Option (Nat × Nat)) (cs : List Value) : List (Nat × Value) → Option (List Value)
  | [] => some cs
  | (i, v) :: r => match place i with
    | none => none
    | some (off, size) => match Nat.beq v.cells.toList.length size && Nat.ble (off + v.cells.toList.length) cs.length with
      | true => sfill place (put1 off v.cells.toList 0 cs) r
      | false => none
def PR (ρ : Rn) : List (Nat × Value) → List (Nat × Value) → Prop
  | [], [] => True
  | (i, v) :: r, (j, u) :: s => i = j ∧ VR ρ v u ∧ PR ρ r s
  | _, _ => False
theorem sfill_ok {ρ : Rn} (place : Nat → Option (Nat × Nat)) : ∀ {ps qs : List (Nat × Value)} {cs out : List Value} {ds : Array Value}, PR ρ ps qs → LR ρ cs ds.toList → sfill place cs ps = some out → ∃ es : Array Value, Instr.fill place ds qs = some es ∧ LR ρ out es.toList
  | [], [], cs, out, ds, _, h, hs => by
    simp only [sfill, Option.some.injEq] at hs
    subst hs
    exact ⟨ds, rfl, h⟩
  | (i, v) :: r, (j, u) :: s, cs, out, ds, hp, h, hs => by
    obtain ⟨rfl, hv, hr⟩ := hp
    simp only [sfill] at hs
    cases hpl : place i with
    | none => rw [hpl] at hs; cases hs
    | some p =>
      obtain ⟨off, size⟩ := p
      rw [hpl] at hs
      simp only at hs
      split at hs
      · rename_i hc
        simp only [Bool.and_eq_true] at hc
        have c1 := (beq_of _ _).1 hc.1
        have c2 := Nat.le_of_ble_eq_true hc.2
        have hvc := hv.cells
        have l1 := hvc.1
        have l2 := h.1
        have e1 : u.cells.size = size := by simp at l1 c1; omega
        have e2 : ¬ off + u.cells.size > ds.size := by simp at l1 l2 c1 c2; omega
        have hfold : LR ρ (put1 off v.cells.toList 0 cs) (u.cells.zipIdx.foldl (fun cs (c, j) => cs.setIfInBounds (off + j) c) ds).toList := by
          have := put1_eq off u.cells.toList 0 ds
          rw [← Array.foldl_toList, Array.toList_zipIdx, this]
          exact put1_rel off 0 hvc h
        obtain ⟨es, k1, k2⟩ := sfill_ok place hr hfold hs
        refine ⟨es, ?_, k2⟩
        simp only [Instr.fill, hpl]
        rw [if_neg (by simp [e1]; omega)]
        exact k1
      · cases hs
  | [], _ :: _, _, _, _, hp, _, _ => hp.elim
  | _ :: _, [], _, _, _, hp, _, _ => hp.elim

def fplaces (P : Program) : List Field → Option (List (Nat × Nat))
  | [] => some []
  | f :: r => match inf P f.type, fplaces P r with
    | some i, some l => some ((f.offset, i.size) :: l)
    | _, _ => none
theorem fplaces_run : ∀ {fs : List Field} {l : List (Nat × Nat)} (_ : fplaces P fs = some l) (W : World), (List.mapM (m := Sem) (fun (f : Field) => Prod.mk f.offset <$> sizeOf f.type) fs).run P W = .ok l W
  | [], l, h, W => by simp only [fplaces, Option.some.injEq] at h; subst h; rfl
  | f :: r, l, h, W => by
    simp only [fplaces, inf_eq] at h
    split at h
    · rename_i i l' hi hl
      cases h
      simp [List.mapM_cons, size_get hi, fplaces_run hl W]
    · cases h
def sbuild (P : Program) (t : TypeId) (ps : List (Nat × Value)) : Option Value :=
  match inf P t, und P t with
  | some i, some (.struct fs) => match i.zero, fplaces P fs.toList with
    | some z, some l => match isLit z, sfill (fun k => l[k]?) z.cells.toList ps with
      | true, some out => some (.agg out.toArray)
      | _, _ => none
    | _, _ => none
  | some i, some (.array _ e) => match i.zero, inf P e with
    | some z, some ei => match isLit z, sfill (fun k => some (k * ei.size, ei.size)) z.cells.toList ps with
      | true, some out => some (.agg out.toArray)
      | _, _ => none
    | _, _ => none
  | _, _ => none
theorem sbuild_ok {ρ : Rn} {t : TypeId} {ps : List (Nat × Value)} {qs : Array (Nat × Value)} {u : Value} (hs : sbuild P t ps = some u) (hp : PR ρ ps qs.toList) : ∃ u', (∀ W : World, (Instr.build t qs).run P W = .ok u' W) ∧ VR ρ u u' := by
  unfold sbuild at hs
  simp only [inf_eq, und_eq, fun1_eq] at hs
  split at hs
  · rename_i i fs hi hu
    split at hs
    · rename_i z l hz hl
      split at hs
      · rename_i out hzl hf
        cases hs
        obtain ⟨es, k1, k2⟩ := sfill_ok _ hp (VR.lit (ρ := ρ) hzl).cells hf
        refine ⟨.agg es, fun W => ?_, by simpa using VR.agg_ k2⟩
        have hm : (Array.mapM (m := Sem) (fun (f : Field) => Prod.mk f.offset <$> sizeOf f.type) fs).run P W = .ok l.toArray W := by
          rw [← Array.toArray_toList (xs := fs), List.mapM_toArray, map_eq_pure_bind, Sem.run_bind, fplaces_run hl W]
          rfl
        simp [Instr.build, zero_get hi hz, run_underlying hu, hm, k1]
      · cases hs
    · cases hs
  · rename_i i n e hi hu
    split at hs
    · rename_i z ei hz he
      split at hs
      · rename_i out hzl hf
        cases hs
        obtain ⟨es, k1, k2⟩ := sfill_ok _ hp (VR.lit (ρ := ρ) hzl).cells hf
        refine ⟨.agg es, fun W => ?_, by simpa using VR.agg_ k2⟩
        simp [Instr.build, zero_get hi hz, run_underlying hu, size_get he, k1]
      · cases hs
    · cases hs
  · cases hs

end
end Go.Proofs.YtfnphhmcbdoojaaGreatDoor.Sim
