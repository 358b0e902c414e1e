/- Symbolic run of single operations: slices, rows, append, copy. No program is named here. -/
import Derived.Test.YtfnphhmcbdoojaaGreatDoorSimC
set_option linter.unusedSimpArgs false
namespace Go.Proofs.YtfnphhmcbdoojaaGreatDoor.Sim
open Go Go.RowKit Go.WideShapes

noncomputable section
variable {P : Program}
/-- A bound that is a number. -/
def bnd : Option Value → Nat → Nat → Option Nat
  | none, d, _ => some d
  | some (.int _ i), _, y => match decide (0 ≤ i ∧ i ≤ y) with
    | true => some i.toNat
    | false => none
  | _, _, _ => none
theorem bnd_run {x : Value} {y n : Nat} {code : BoundsCode} (h : bnd (some x) 0 y = some n) (W : World) : (Instr.sliceBound x y code).run P W = .ok n W ∧ n ≤ y := by
  unfold bnd at h
  split at h
  · rename_i e; cases e
  · rename_i k i e
    cases e
    split at h
    · rename_i hd
      have hd := of_decide_eq_true hd
      cases h
      exact ⟨by simp [Instr.sliceBound, asIntOf, hd], by omega⟩
    · cases h
  · cases h
/-- A part of a slice (no third bound). -/
def sslice (P : Program) (t : TypeId) (v : Value) (lo hi : Option Value) : Option Value :=
  match und P t, v with
  | some (.slice e), .slice (some ⟨b, o, none⟩) n c => match inf P e, Nat.beq c UNK with
    | some fi, false => match bnd hi n c, Nat.ble n c, Nat.ble (c + 1) UNK with
      | some h, true, true => match bnd lo 0 h with
        | some l => some (.slice (some ⟨b, o + (if c = l then 0 else l * fi.size), none⟩) (h - l) (c - l))
        | none => none
      | _, _, _ => none
    | some _, true => match bnd hi n n with
      | some h => match bnd lo 0 h with
        | some l => match Nat.beq l 0 with
          | true => some (.slice (some ⟨b, o, none⟩) h UNK)
          | false => match Nat.ble (l + 1) n with
            | true => some (.slice (some ⟨b, o + l * (match inf P e with
              | some fi => fi.size
              | none => 0), none⟩) (h - l) UNK)
            | false => none
        | none => none
      | none => none
    | _, _ => none
  | some (.array n e), .pointer (some ⟨b, o, none⟩) => match inf P e, bnd hi n n, Nat.ble (n + 1) UNK with
    | some fi, some h, true => match bnd lo 0 h with
      | some l => some (.slice (some ⟨b, o + (if n = l then 0 else l * fi.size), none⟩) (h - l) (n - l))
      | none => none
    | _, _, _ => none
  | _, _ => none
theorem bnd_up {x : Value} {d n c h : Nat} (hb : bnd (some x) d n = some h) (hc : n ≤ c) : bnd (some x) 0 c = some h := by
  cases x with
  | int k i =>
    simp only [bnd] at hb ⊢
    split at hb
    · rename_i hd
      have hd := of_decide_eq_true hd
      rw [decide_eq_true (show 0 ≤ i ∧ i ≤ (c : Int) from ⟨hd.1, by omega⟩)]
      exact hb
    · cases hb
  | _ => simp [bnd] at hb
theorem bounds_run {isS : Bool} {n m c h l : Nat} {lo hi : Option Value} (hhi : bnd hi n m = some h) (hlo : bnd lo 0 h = some l) (hn : n ≤ m) (hc : m ≤ c) (W : World) :
    (Instr.sliceBounds isS n c lo hi none).run P W = .ok (l, h, c) W ∧ l ≤ h ∧ h ≤ m := by
  have hh : h ≤ m := by
    cases hi with
    | none => simp [bnd] at hhi; omega
    | some x => exact (bnd_run (P := P) (code := .sliceB) (bnd_up hhi (Nat.le_refl _)) W).2
  have hl : l ≤ h := by
    cases lo with
    | none => simp [bnd] at hlo; omega
    | some x => exact (bnd_run (P := P) (code := .sliceB) hlo W).2
  refine ⟨?_, hl, hh⟩
  unfold Instr.sliceBounds
  cases hi with
  | none =>
    simp [bnd] at hhi
    subst hhi
    cases lo with
    | none => simp [bnd] at hlo; subst hlo; simp
    | some y => simp [(bnd_run (P := P) hlo W).1]
  | some x =>
    have hb := bnd_up hhi hc
    cases lo with
    | none => simp [bnd] at hlo; subst hlo; simp [(bnd_run (P := P) hb W).1]
    | some y => simp [(bnd_run (P := P) hb W).1, (bnd_run (P := P) hlo W).1]
theorem sslice_ok {ρ : Rn} {t : TypeId} {v v' u : Value} {lo hi : Option Value} (hs : sslice P t v lo hi = some u) (hv : VR ρ v v') : ∃ u', (∀ W : World, (Instr.sliceAt t v' lo hi none).run P W = .ok u' W) ∧ VR ρ u u' := by
  unfold sslice at hs
  simp only [inf_eq, und_eq, fun1_eq] at hs
  split at hs
  · rename_i e b o n c hu
    obtain ⟨L, hL, c', rfl, hc⟩ := hv.slice_inv
    split at hs
    · rename_i fi hfi hcu
      have hcu : c ≠ UNK := fun e => by rw [e] at hcu; simp [Nat.beq_refl] at hcu
      obtain ⟨-, rfl⟩ := hc.resolve_right (fun hh => hcu hh.1)
      split at hs
      · rename_i h hhi hnc hlt
        have hlt := Nat.le_of_ble_eq_true hlt
        split at hs
        · rename_i l hlo
          cases hs
          have hb := fun W => (bounds_run (P := P) (isS := true) hhi hlo (Nat.le_of_ble_eq_true hnc) (Nat.le_refl _) W).1
          obtain ⟨-, hlh, hhm⟩ := bounds_run (P := P) (isS := true) hhi hlo (Nat.le_of_ble_eq_true hnc) (Nat.le_refl _) default
          refine ⟨.slice (some ⟨L.x, L.s + (o + if c' = l then 0 else l * fi.size), none⟩) (h - l) (c' - l), fun W => ?_, .slice hL (by omega)⟩
          by_cases hcl : c' = l
          · subst hcl
            simp [Instr.sliceAt, Instr.slice, run_underlying hu, hb, size_get hfi]
          · simp [Instr.sliceAt, Instr.slice, run_underlying hu, hb, size_get hfi, hcl, add_plain, Nat.add_assoc]
        · cases hs
      · cases hs
    · rename_i fi hfi hcu
      have hcu := (beq_of _ _).1 hcu
      subst hcu
      obtain ⟨-, q1, q2, q3⟩ := hc.resolve_left (fun hh => hh.1 rfl)
      split at hs
      · rename_i h hhi
        split at hs
        · rename_i l hlo
          split at hs
          · rename_i hl0
            have hl0 := (beq_of _ _).1 hl0
            subst hl0
            cases hs
            have hb := fun W => (bounds_run (P := P) (isS := true) hhi hlo (Nat.le_refl _) q1 W).1
            obtain ⟨-, -, hhn⟩ := bounds_run (P := P) (isS := true) hhi hlo (Nat.le_refl _) q1 default
            refine ⟨.slice (some ⟨L.x, L.s + o, none⟩) h c', fun W => ?_, .sliceU hL (by omega) q2 q3⟩
            simp [Instr.sliceAt, Instr.slice, run_underlying hu, hb, size_get hfi, add_plain]
          · split at hs
            · rename_i hln
              have hln := Nat.le_of_ble_eq_true hln
              cases hs
              have hb := fun W => (bounds_run (P := P) (isS := true) hhi hlo (Nat.le_refl _) q1 W).1
              obtain ⟨-, hlh, hhn⟩ := bounds_run (P := P) (isS := true) hhi hlo (Nat.le_refl _) q1 default
              have hcl : ¬ c' = l := by omega
              refine ⟨.slice (some ⟨L.x, L.s + (o + l * fi.size), none⟩) (h - l) (c' - l), fun W => ?_, ?_⟩
              · simp [Instr.sliceAt, Instr.slice, run_underlying hu, hb, size_get hfi, hcl, add_plain, Nat.add_assoc]
              · simp only [hfi]
                refine .sliceU hL (by omega) (by omega) fun ho => ?_
                have h4 := q3 (by omega)
                exact Nat.le_trans (Nat.mul_le_mul_right _ (Nat.sub_le _ _)) h4
            · cases hs
        · cases hs
      · cases hs
    · cases hs
  · rename_i n e b o hu
    obtain ⟨L, hL, rfl⟩ := hv.ptr_inv
    split at hs
    · rename_i fi h hfi hhi hlt
      have hlt := Nat.le_of_ble_eq_true hlt
      split at hs
      · rename_i l hlo
        cases hs
        have hb := fun W => (bounds_run (P := P) (isS := false) hhi hlo (Nat.le_refl _) (Nat.le_refl _) W).1
        obtain ⟨-, hlh, hhm⟩ := bounds_run (P := P) (isS := false) hhi hlo (Nat.le_refl _) (Nat.le_refl _) default
        refine ⟨.slice (some ⟨L.x, L.s + (o + if n = l then 0 else l * fi.size), none⟩) (h - l) (n - l), fun W => ?_, .slice hL (by omega)⟩
        by_cases hcl : n = l
        · subst hcl
          simp [Instr.sliceAt, Instr.sureAddr, run_underlying hu, hb, size_get hfi]
        · simp [Instr.sliceAt, Instr.sureAddr, run_underlying hu, hb, size_get hfi, hcl, add_plain, Nat.add_assoc]
      · cases hs
    · cases hs
  · cases hs

/-- A row that is made. -/
def smake (P : Program) (nm : Nat) (t : TypeId) (l c : Value) (H : Heap) : Option (Value × Heap) :=
  match und P t, l, c with
  | some (.slice e), .int _ ln, .int _ cp => match inf P e with
    | some i => match i.zero with
      | some z => match decide (0 ≤ ln ∧ ln ≤ cp ∧ cp ≤ 1000000 ∧ i.bytes * cp ≤ 281474976710656), isLit z with
        | true, true => match snew nm e ((Array.range (cp.toNat * i.size)).map ((if cp.toNat * i.size = 0 then #[] else z.cells)[· % (if cp.toNat * i.size = 0 then #[] else z.cells).size]!)).toList H with
          | some H' => some (.slice (some ⟨nm, 0, none⟩) ln.toNat cp.toNat, H')
          | none => none
        | _, _ => none
      | none => none
    | none => none
  | _, _, _ => none
theorem lit_cells {z : Value} (h : isLit z = true) : z.cells.toList.all isLit = true := by
  rw [List.all_eq_true]
  intro x hx
  cases z <;> first
    | (simp [Value.cells] at hx; subst hx; exact h)
    | (rename_i cs; exact isLit_of_cell (List.all_eq_true.1 (show cs.toList.all cellLit = true from h) x hx))
theorem smake_ok {n0 : Nat} {ρ : Rn} {H H' : Heap} {W : World} {nm : Nat} {t : TypeId} {l c l' c' u : Value} (hs : smake P nm t l c H = some (u, H')) (hl : VR ρ l l') (hc : VR ρ c c') (h : HR P n0 ρ H W) (h0 : n0 ≤ W.heap.size) :
    ∃ ρ' W' u', (Instr.makeSlice t l' c').run P W = .ok u' W' ∧ VR ρ' u u' ∧ Okay P n0 ρ H W H' [] ρ' W' := by
  unfold smake at hs
  simp only [inf_eq, und_eq, fun1_eq] at hs
  split at hs
  · rename_i e k1 ln k2 cp hu
    have := hl.int_inv
    subst this
    have := hc.int_inv
    subst this
    split at hs
    · rename_i i hi
      split at hs
      · rename_i z hz
        split at hs
        · rename_i hd hzl
          have hd := of_decide_eq_true hd
          split at hs
          · rename_i H2 hn
            cases hs
            obtain ⟨ρ', g1, g2⟩ := snew_ok hn (LR.lits (ρ := ρ) (by
              rw [List.all_eq_true]
              intro x hx
              obtain ⟨j, hj, rfl⟩ := Array.mem_map.1 (Array.mem_toList_iff.1 hx)
              have hj : j < cp.toNat * i.size := by simpa using hj
              have hne : ¬ cp.toNat * i.size = 0 := by omega
              simp only [hne, if_false]
              by_cases hz0 : j % z.cells.size < z.cells.size
              · rw [getElem!_pos z.cells (j % z.cells.size) hz0]
                exact List.all_eq_true.1 (lit_cells hzl) _ (by simp)
              · rw [getElem!_neg z.cells (j % z.cells.size) hz0]
                rfl)) h h0 []
            rw [List.append_nil, Array.toArray_toList] at g2
            refine ⟨ρ', _, .slice (some ⟨W.heap.size, 0, none⟩) ln.toNat cp.toNat, ?_, ?_, g2⟩
            · have w1 : IntKind.i64.wrap ln = ln := by simp [IntKind.wrap, IntKind.bits, IntKind.signed]; omega
              have w2 : IntKind.i64.wrap cp = cp := by simp [IntKind.wrap, IntKind.bits, IntKind.signed]; omega
              have e1 : ¬ ln < 0 := by omega
              have e2 : ¬ cp < 0 := by omega
              have e3 : ¬ cp < ln := by omega
              have e4 : ¬ 281474976710656 < (i.bytes : Int) * cp := by omega
              by_cases hz0 : cp.toNat * i.size = 0
              · simp [Instr.makeSlice, asInt, asIntOf, run_underlying hu, info_get hi, size_get hi, w1, w2, e1, e2, e3, e4, hz0, newRow]
              · simp [Instr.makeSlice, asInt, asIntOf, run_underlying hu, info_get hi, size_get hi, zero_get hi hz, w1, w2, e1, e2, e3, e4, hz0, newRow]
            · have := VR.slice (o := 0) (n := ln.toNat) (c := cp.toNat) g1 (by unfold UNK; omega)
              simpa using this
          · cases hs
        · cases hs
      · cases hs
    · cases hs
  · cases hs

end
end Go.Proofs.YtfnphhmcbdoojaaGreatDoor.Sim
