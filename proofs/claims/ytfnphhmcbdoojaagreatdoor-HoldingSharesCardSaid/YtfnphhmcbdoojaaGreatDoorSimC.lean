/- Symbolic run of single operations: those that look at memory, one lemma each. No program is named here. -/
import Derived.Test.YtfnphhmcbdoojaaGreatDoorSimB
import Derived.Laws.Append
set_option linter.unusedSimpArgs false
namespace Go.Proofs.YtfnphhmcbdoojaaGreatDoor.Sim
open Go Go.RowKit Go.WideShapes

noncomputable section
variable {P : Program}
theorem info_get {t : TypeId} {i : TypeInfo} (h : P.info? t = some i) (W : World) : (typeInfo t).run P W = .ok i W := by simp [typeInfo, h]
theorem size_get {t : TypeId} {i : TypeInfo} (h : P.info? t = some i) (W : World) : (sizeOf t).run P W = .ok i.size W := by simp [sizeOf, typeInfo, h]
theorem zero_get {t : TypeId} {i : TypeInfo} {z : Value} (h : P.info? t = some i) (hz : i.zero = some z) (W : World) : (zeroValue t).run P W = .ok z W := by simp [zeroValue, typeInfo, h, hz]
theorem szOf_eq {t : TypeId} {i : TypeInfo} (h : P.info? t = some i) : szOf P t = i.size := by simp [szOf, h]
def isAggD : TypeDesc → Bool
  | .struct _ => true
  | .array _ _ => true
  | _ => false
theorem agg_get {t : TypeId} {d : TypeDesc} (h : P.underlying t = some d) (W : World) : (isAgg t).run P W = .ok (isAggD d) W := by
  unfold isAgg
  rw [Sem.run_bind, run_underlying h W]
  cases d <;> rfl
theorem VR.ptr_inv {ρ : Rn} {b o : Nat} {v' : Value} (h : VR ρ (.pointer (some ⟨b, o, none⟩)) v') : ∃ L, ρ b = some L ∧ v' = .pointer (some ⟨L.x, L.s + o, none⟩) := by
  cases h with
  | lit h => simp [isLit, aggLit, cellLit] at h
  | ptr h => exact ⟨_, h, rfl⟩
theorem VR.map_inv {ρ : Rn} {b : Nat} {v' : Value} (h : VR ρ (.map (some b)) v') : ∃ L, ρ b = some L ∧ v' = .map (some L.x) := by
  cases h with
  | lit h => simp [isLit, aggLit, cellLit] at h
  | map h => exact ⟨_, h, rfl⟩
theorem VR.slice_inv {ρ : Rn} {b o n c : Nat} {v' : Value} (h : VR ρ (.slice (some ⟨b, o, none⟩) n c) v') :
    ∃ L, ρ b = some L ∧ ∃ c', v' = .slice (some ⟨L.x, L.s + o, none⟩) n c' ∧ ((c ≠ UNK ∧ c' = c) ∨ (c = UNK ∧ n ≤ c' ∧ c' < UNK ∧ (o = 0 → c' * L.sz ≤ L.n))) := by
  cases h with
  | lit h => simp [isLit, aggLit, cellLit] at h
  | slice h hc => exact ⟨_, h, _, rfl, .inl ⟨hc, rfl⟩⟩
  | sliceU h h1 h2 h3 => exact ⟨_, h, _, rfl, .inr ⟨rfl, h1, h2, h3⟩⟩
theorem VR.int_inv {ρ : Rn} {k : IntKind} {n : Int} {v' : Value} (h : VR ρ (.int k n) v') : v' = .int k n := h.lit_eq rfl
theorem VR.cells {ρ : Rn} {v v' : Value} (h : VR ρ v v') : LR ρ v.cells.toList v'.cells.toList := by
  by_cases hl : isLit v = true
  · have e := h.lit_eq hl
    subst e
    cases v' <;> first
      | exact (VR.agg_inv h).elim fun cs' hh => by obtain ⟨e, k⟩ := hh; cases e; exact k
      | exact LR.cons h (LR.nil ρ)
  · cases h with
    | lit h => exact absurd h hl
    | agg h1 h2 => exact ⟨by simpa [Value.cells] using h1, fun i v v' a b => h2 i v v' (by simpa [Value.cells] using a) (by simpa [Value.cells] using b)⟩
    | ptr h => exact LR.cons (.ptr h) (LR.nil ρ)
    | slice h hc => exact LR.cons (.slice h hc) (LR.nil ρ)
    | sliceU h h1 h2 h3 => exact LR.cons (.sliceU h h1 h2 h3) (LR.nil ρ)
    | map h => exact LR.cons (.map h) (LR.nil ρ)
    | func h1 h2 h3 h4 => exact LR.cons (.func h1 h2 h3 h4) (LR.nil ρ)
    | tuple h1 h2 => exact LR.cons (.tuple h1 h2) (LR.nil ρ)
theorem VR.one {ρ : Rn} {v v' : Value} (h : VR ρ v v') : v'.oneCell' = v.oneCell' := by
  cases h <;> rfl
theorem LR.ones {ρ : Rn} {xs ys : List Value} (h : LR ρ xs ys) (h1 : xs.all (·.oneCell') = true) : ∀ v ∈ ys, v.oneCell' = true := by
  intro v hv
  obtain ⟨i, hi⟩ := List.getElem?_of_mem hv
  have hlt : i < xs.length := by have := (List.getElem?_eq_some_iff.1 hi).1; rw [h.1]; exact this
  have := h.2 i xs[i] v (List.getElem?_eq_getElem hlt) hi
  rw [this.one]
  exact List.all_eq_true.1 h1 _ (List.getElem_mem hlt)

/-- Load. -/
def sload (P : Program) (t : TypeId) (v : Value) (H : Heap) : Option Value :=
  match v with
  | .pointer (some ⟨b, o, none⟩) => match hget H b with
    | some (.cells xs _) => match und P t, inf P t with
      | some d, some i => match isAggD d with
        | true => match Nat.ble (o + i.size) xs.length with
          | true => some (.agg ((xs.drop o).take i.size).toArray)
          | false => none
        | false => xs[o]?
      | _, _ => none
    | _ => none
  | _ => none
theorem sload_ok {n0 : Nat} {ρ : Rn} {H : Heap} {W : World} {t : TypeId} {v v' u : Value} (hs : sload P t v H = some u) (hv : VR ρ v v') (h : HR P n0 ρ H W) : ∃ u', (Instr.loadAt t v').run P W = .ok u' W ∧ VR ρ u u' := by
  unfold sload at hs
  simp only [inf_eq, und_eq, fun1_eq] at hs
  split at hs
  · rename_i b o
    obtain ⟨L, hL, rfl⟩ := hv.ptr_inv
    split at hs
    · rename_i xs ty hb
      split at hs
      · rename_i d i hu hi
        split at hs
        · rename_i hd
          split at hs
          · rename_i hle
            cases hs
            obtain ⟨ys, h1, h2, h3⟩ := h.cells hb hL o i.size (Nat.le_of_ble_eq_true hle)
            refine ⟨.agg ys.toArray, ?_, VR.agg_ h1⟩
            have hl := run_loadCells_list (P := P) W ⟨L.x, L.s + o, none⟩ ys h3
            rw [h2] at hl
            simp [Instr.loadAt, Instr.sureAddr, loadVar, Sem.run_bind, agg_get hu, hd, size_get hi, hl]
          · cases hs
        · rename_i hd
          have hlt := (List.getElem?_eq_some_iff.1 hs).1
          obtain ⟨ys, h1, h2, h3⟩ := h.cells hb hL o 1 (by omega)
          obtain ⟨u', a, c⟩ := h1.get (i := 0) (v := u) (by simp [hs])
          refine ⟨u', ?_, c⟩
          have hc := h3 0 u' a
          rw [add_plain] at hc
          simp only [Nat.add_zero] at hc
          simp [Instr.loadAt, Instr.sureAddr, loadVar, Sem.run_bind, agg_get hu, hd, hc]
      · cases hs
    · cases hs
  · cases hs

/-- Store. -/
def sstore (P : Program) (t : TypeId) (v x : Value) (H : Heap) : Option (Heap × List Nat) :=
  match v with
  | .pointer (some ⟨b, o, none⟩) => match hget H b with
    | some (.cells xs ty) => match inf P t with
      | some i => match Nat.beq x.cells.toList.length i.size, Nat.ble (o + x.cells.toList.length) xs.length, x.cells.toList.all (·.oneCell') with
        | true, true, true => some (hset H b (.cells (ovl xs o x.cells.toList) ty), [b])
        | _, _, _ => none
      | _ => none
    | _ => none
  | _ => none
theorem sstore_ok {n0 : Nat} {ρ : Rn} {H H' : Heap} {W : World} {t : TypeId} {v v' x x' : Value} {wr : List Nat} (hs : sstore P t v x H = some (H', wr)) (hv : VR ρ v v') (hx : VR ρ x x') (h : HR P n0 ρ H W) :
    ∃ W', (Instr.storeAt t v' x').run P W = .ok () W' ∧ Okay P n0 ρ H W H' wr ρ W' := by
  unfold sstore at hs
  simp only [inf_eq, und_eq, fun1_eq] at hs
  split at hs
  · rename_i b o
    obtain ⟨L, hL, rfl⟩ := hv.ptr_inv
    split at hs
    · rename_i xs ty hb
      split at hs
      · rename_i i hi
        split at hs
        · rename_i e1 e2 e3
          cases hs
          have hc := hx.cells
          obtain ⟨cs, g1, g2, g3⟩ := h.store hb hL (Nat.le_of_ble_eq_true e2) hc
          refine ⟨_, ?_, g3⟩
          have hst := run_storeCells_at P L.x (L.s + o) ty x'.cells.toList 0 cs W g1 (by simpa using g2) (hc.ones e3)
          have hsz : x'.cells.size = i.size := by
            have := hc.1
            have := (beq_of _ _).1 e1
            simp at *
            omega
          simp only [Nat.add_zero] at hst
          simp [Instr.storeAt, Instr.sureAddr, storeVar, Sem.run_bind, size_get hi, hsz, hst]
        · cases hs
      · cases hs
    · cases hs
  · cases hs

/-- A new variable. -/
def snew (nm : Nat) (t : TypeId) (xs : List Value) (H : Heap) : Option Heap :=
  match hget H nm with
  | none => some (hins H nm (.cells xs t))
  | some _ => none
theorem snew_ok {n0 : Nat} {ρ : Rn} {H H' : Heap} {W : World} {nm : Nat} {t : TypeId} {xs ys : List Value} (hs : snew nm t xs H = some H') (hx : LR ρ xs ys) (h : HR P n0 ρ H W) (h0 : n0 ≤ W.heap.size) (more : List Value) :
    ∃ ρ', ρ' nm = some ⟨W.heap.size, 0, ys.length + more.length, szOf P t⟩ ∧ Okay P n0 ρ H W H' [] ρ' (W.alloc (.cells (ys ++ more).toArray t)) := by
  unfold snew at hs
  split at hs
  · rename_i hn
    cases hs
    exact h.alloc_cells h0 hn hx t more
  · cases hs
theorem newVar_run (t : TypeId) (v : Value) (W : World) : (newVar t v).run P W = .ok ⟨W.heap.size, 0, none⟩ (W.alloc (.cells v.cells t)) := by
  simp [newVar, newRow]
theorem box_ok {n0 : Nat} {ρ : Rn} {H H' : Heap} {W : World} {nm : Nat} {t : TypeId} {v v' : Value} (hs : snew nm t v.cells.toList H = some H') (hv : VR ρ v v') (h : HR P n0 ρ H W) (h0 : n0 ≤ W.heap.size) :
    ∃ ρ' W', (Instr.box t v').run P W = .ok (.pointer (some ⟨W.heap.size, 0, none⟩)) W' ∧ VR ρ' (.pointer (some ⟨nm, 0, none⟩)) (.pointer (some ⟨W.heap.size, 0, none⟩)) ∧ Okay P n0 ρ H W H' [] ρ' W' := by
  obtain ⟨ρ', h1, h2⟩ := snew_ok hs hv.cells h h0 []
  refine ⟨ρ', _, ?_, ?_, h2⟩
  · simp [Instr.box, newVar_run]
  · have := VR.ptr (o := 0) h1
    simpa using this
theorem alloc_ok {n0 : Nat} {ρ : Rn} {H H' : Heap} {W : World} {nm : Nat} {t : TypeId} {i : TypeInfo} {z : Value} (hi : P.info? t = some i) (hz : i.zero = some z) (hl : isLit z = true) (hs : snew nm t z.cells.toList H = some H') (h : HR P n0 ρ H W) (h0 : n0 ≤ W.heap.size) :
    ∃ ρ' W', (Instr.alloc t true (.tuple #[])).run P W = .ok (.pointer (some ⟨W.heap.size, 0, none⟩)) W' ∧ VR ρ' (.pointer (some ⟨nm, 0, none⟩)) (.pointer (some ⟨W.heap.size, 0, none⟩)) ∧ Okay P n0 ρ H W H' [] ρ' W' := by
  obtain ⟨ρ', h1, h2⟩ := snew_ok hs (VR.lit hl : VR ρ z z).cells h h0 []
  refine ⟨ρ', _, ?_, ?_, h2⟩
  · simp [Instr.alloc, Sem.run_bind, zero_get hi hz, newVar_run]
  · have := VR.ptr (o := 0) h1
    simpa using this

/-- Addresses of fields and elements. -/
def sfield (P : Program) (s : TypeId) (v : Value) (f : Nat) : Option Value :=
  match v with
  | .pointer (some ⟨b, o, none⟩) => match und P s with
    | some (.struct fs) => match fs[f]? with
      | some fd => match inf P fd.type with
        | some i => match Nat.beq i.size 0 with
          | false => some (.pointer (some ⟨b, o + fd.offset, none⟩))
          | true => none
        | none => none
      | none => none
    | _ => none
  | _ => none
theorem sfield_ok {ρ : Rn} {s : TypeId} {v v' u : Value} {f : Nat} (hs : sfield P s v f = some u) (hv : VR ρ v v') : ∃ u', (∀ W : World, (Instr.fieldAt s v' f).run P W = .ok u' W) ∧ VR ρ u u' := by
  unfold sfield at hs
  simp only [inf_eq, und_eq, fun1_eq] at hs
  split at hs
  · rename_i b o
    obtain ⟨L, hL, rfl⟩ := hv.ptr_inv
    split at hs
    · rename_i fs hu
      split at hs
      · rename_i fd hf
        split at hs
        · rename_i i hi
          split at hs
          · rename_i h0
            cases hs
            refine ⟨.pointer (some ⟨L.x, L.s + (o + fd.offset), none⟩), fun W => ?_, .ptr hL⟩
            have hne : ¬ i.size = 0 := fun e => by rw [e] at h0; cases h0
            simp [Instr.fieldAt, Instr.sureAddr, fieldPlace, Sem.run_bind, run_underlying hu, hf, size_get hi, hne, add_plain, Nat.add_assoc]
          · cases hs
        · cases hs
      · cases hs
    · cases hs
  · cases hs
def sindex (P : Program) (t : TypeId) (v ix : Value) : Option Value :=
  match ix with
  | .int _ i => match und P t, v with
    | some (.array len e), .pointer (some ⟨b, o, none⟩) => match inf P e, decide (0 ≤ i ∧ i < len) with
      | some fi, true => some (.pointer (some ⟨b, o + i.toNat * fi.size, none⟩))
      | _, _ => none
    | some (.slice e), .slice (some ⟨b, o, none⟩) len _ => match inf P e, decide (0 ≤ i ∧ i < len) with
      | some fi, true => some (.pointer (some ⟨b, o + i.toNat * fi.size, none⟩))
      | _, _ => none
    | _, _ => none
  | _ => none
theorem sindex_ok {ρ : Rn} {t : TypeId} {v v' ix ix' u : Value} (hs : sindex P t v ix = some u) (hv : VR ρ v v') (hx : VR ρ ix ix') : ∃ u', (∀ W : World, (Instr.indexAt t v' ix').run P W = .ok u' W) ∧ VR ρ u u' := by
  unfold sindex at hs
  simp only [inf_eq, und_eq, fun1_eq] at hs
  split at hs
  · rename_i k i
    have := hx.int_inv
    subst this
    split at hs
    · rename_i len e b o hu
      obtain ⟨L, hL, rfl⟩ := hv.ptr_inv
      split at hs
      · rename_i fi hi hd
        cases hs
        have hd := of_decide_eq_true hd
        refine ⟨.pointer (some ⟨L.x, L.s + (o + i.toNat * fi.size), none⟩), fun W => ?_, .ptr hL⟩
        simp [Instr.indexAt, asIntOf, Instr.sureAddr, Sem.run_bind, run_underlying hu, size_get hi, hd, add_plain, Nat.add_assoc]
      · cases hs
    · rename_i e b o len c hu
      obtain ⟨L, hL, c', rfl, -⟩ := hv.slice_inv
      split at hs
      · rename_i fi hi hd
        cases hs
        have hd := of_decide_eq_true hd
        refine ⟨.pointer (some ⟨L.x, L.s + (o + i.toNat * fi.size), none⟩), fun W => ?_, .ptr hL⟩
        simp [Instr.indexAt, asIntOf, Sem.run_bind, run_underlying hu, size_get hi, hd, add_plain, Nat.add_assoc]
      · cases hs
    · cases hs
  · cases hs

end
end Go.Proofs.YtfnphhmcbdoojaaGreatDoor.Sim
