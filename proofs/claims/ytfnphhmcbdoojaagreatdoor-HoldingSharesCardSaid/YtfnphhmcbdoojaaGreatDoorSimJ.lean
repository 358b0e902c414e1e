/- Symbolic run of an operation of whatever kind. No program is named here. -/
import Derived.Test.YtfnphhmcbdoojaaGreatDoorSimS
import Derived.Test.YtfnphhmcbdoojaaGreatDoorSimY
set_option linter.unusedSimpArgs false
namespace Go.Proofs.YtfnphhmcbdoojaaGreatDoor.Sim
open Go Go.RowKit Go.WideShapes

noncomputable section

variable {P : Program}
def sev (tm : Tr Value) : Operand → Value
  | .tmp t => tm.get undef t
  | .const v => v
  | .global g => .pointer (some ⟨g, 0, none⟩)
  | .func f => .func (.func f) #[] #[]
def okx : Operand → Bool
  | .tmp _ => true
  | .const v => isLit v
  | .global _ => false
  | .func _ => true
theorem sev_rel {ρ : Rn} {tm : Tr Value} {a : Act} (h : FR ρ tm a.tmps.toList) {x : Operand} (hx : okx x = true) : VR ρ (sev tm x) (a.eval x) := by
  cases x with
  | tmp t =>
    simp only [sev, Act.eval]
    rw [Array.getD_eq_getD_getElem?]
    have := h.get t
    rwa [Array.getElem?_toList] at this
  | const v => exact .lit hx
  | global g => cases hx
  | func f => exact .lit rfl
theorem sev_lit {ρ : Rn} {tm : Tr Value} {a : Act} (h : FR ρ tm a.tmps.toList) {x : Operand} (hx : isLit (sev tm x) = true) : a.eval x = sev tm x := by
  have : okx x = true := by
    cases x <;> first
      | rfl
      | exact hx
      | (simp [sev, isLit, aggLit, cellLit] at hx)
  exact (sev_rel h this).lit_eq hx
def noSel : Op → Bool
  | .select _ _ => false
  | _ => true
def spure (P : Program) (tm : Tr Value) (o : Oper) : Option Value :=
  match noSel o.op, o.op.operands.toList.all (fun x => isLit (sev tm x)) with
  | true, true => match pv P (execOp (sev tm) o) with
    | some (.value v) => match isLit v with
      | true => some v
      | false => none
    | _ => none
  | _, _ => none
theorem spure_ok {ρ : Rn} {tm : Tr Value} {a : Act} {o : Oper} {v : Value} (hs : spure P tm o = some v) (h : FR ρ tm a.tmps.toList) (W : World) : (execOp a.eval o).run P W = .ok (.value v) W ∧ isLit v = true := by
  unfold spure at hs
  split at hs
  · rename_i h1 h2
    have he : execOp a.eval o = execOp (sev tm) o := execOp_congr o (fun cs b e => by rw [e] at h1; cases h1) fun x hx => sev_lit h (List.all_eq_true.1 h2 x (Array.mem_toList_iff.2 hx))
    split at hs
    · rename_i u hp
      split at hs
      · rename_i hl
        cases hs
        rw [he]
        exact ⟨pv_run hp W, hl⟩
      · cases hs
    · cases hs
  · cases hs
/-- A function that is entered. -/
def namesOk (P : Program) : Bool := P.funcs.toList.all fun fn => fn.body.isNone || !(fn.name == "runtime.NumGoroutine")
def isFn (P : Program) (f : FuncId) : Bool :=
  match fun1 P f with
  | some fn => fn.body.isSome
  | none => false
theorem isFn_ok (hN : namesOk P = true) {f : FuncId} (h : isFn P f = true) (args : Array Value) (W : World) : (callFunc f args).run P W = .ok (.enter f args) W := by
  unfold isFn at h
  simp only [inf_eq, und_eq, fun1_eq] at h
  split at h
  · rename_i fn hf
    have hb : ¬ fn.body = none := fun e => by rw [e] at h; simp at h
    have hn : ¬ fn.name = "runtime.NumGoroutine" := by
      have := List.all_eq_true.1 hN fn (by rw [← Array.getElem?_toList] at hf; exact List.mem_of_getElem? hf)
      simp only [Bool.or_eq_true, Bool.not_eq_true', beq_eq_false_iff_ne] at this
      rcases this with h1 | h1
      · rw [Option.isNone_iff_eq_none] at h1
        exact absurd h1 hb
      · exact h1
    simp [callFunc, hf, hn, hb]
  · cases h

inductive SRes where
  | val (v : Value) (H : Heap) (wr : List Nat)
  | call (f : FuncId) (args : List Value)
def oks (l : List Operand) : Bool := l.all okx
def ofV (H : Heap) : Option Value → Option SRes
  | some v => some (.val v H [])
  | none => none
def ofVH : Option (Value × Heap) → Option SRes
  | some (v, H) => some (.val v H [])
  | none => none
def ofVHW : Option (Value × Heap × List Nat) → Option SRes
  | some (v, H, wr) => some (.val v H wr)
  | none => none
def salloc (P : Program) (nm : Nat) (t : TypeId) (H : Heap) : Option (Value × Heap) :=
  match inf P t with
  | some i => match i.zero with
    | some z => match isLit z, snew nm t z.cells.toList H with
      | true, some H' => some (.pointer (some ⟨nm, 0, none⟩), H')
      | _, _ => none
    | none => none
  | none => none
def sbox (nm : Nat) (t : TypeId) (v : Value) (H : Heap) : Option (Value × Heap) :=
  match snew nm t v.cells.toList H with
  | some H' => some (.pointer (some ⟨nm, 0, none⟩), H')
  | none => none
def sbuiltin (P : Program) (nm : Nat) (b : Builtin) (ts : List TypeId) (as : List Value) (H : Heap) : Option SRes :=
  match b, ts, as with
  | .append, [t, tx], [s, x] => ofVHW (sappend P nm t tx s x H)
  | .copy, [t, _], [d, s] => ofVHW (scopy P t d s H)
  | .len, [t], [v] => ofV H (slen P t v H)
  | .cap, [t], [v] => ofV H (scap P t v)
  | .delete, [t, _], [m, k] => ofVHW (sdelete P t m k H)
  | .clear, [t], [v] => ofVHW (sclear P t v H)
  | _, _, _ => none
def scall (P : Program) (v : Value) (as : List Value) : Option SRes :=
  match v with
  | .func (.func f) first captured => match isFn P f with
    | true => some (.call f (first.toList ++ as ++ captured.toList))
    | false => none
  | _ => none
def qMove (tm : Tr Value) (x : Operand) : Option Value :=
  match okx x with
  | true => some (sev tm x)
  | false => none
def qNil1 (v : Value) : Option Value :=
  match v with
  | .pointer (some ⟨b, k, none⟩) => some (.pointer (some ⟨b, k, none⟩))
  | _ => none
def qNil (tm : Tr Value) (x : Operand) : Option Value :=
  match okx x with
  | true => qNil1 (sev tm x)
  | false => none
def qPick (tm : Tr Value) (c a b : Operand) : Option Value :=
  match okx c, sev tm c with
  | true, .bool true => qMove tm a
  | true, .bool false => qMove tm b
  | _, _ => none
def qBuild (P : Program) (tm : Tr Value) (t : TypeId) (ps : Array (Nat × Operand)) : Option Value :=
  match oks (ps.toList.map (·.2)) with
  | true => sbuild P t (ps.toList.map fun (i, x) => (i, sev tm x))
  | false => none
def fbin (op : BinOp) (k : IntKind) (a b : Int) : Option Value :=
  match op with
  | .add => some (.int k (k.wrap (a + b)))
  | .sub => some (.int k (k.wrap (a - b)))
  | .mul => some (.int k (k.wrap (a * b)))
  | .eql => some (.bool (a == b))
  | .neq => some (.bool (a != b))
  | .lss => some (.bool (a < b))
  | .leq => some (.bool (a ≤ b))
  | .gtr => some (.bool (a > b))
  | .geq => some (.bool (a ≥ b))
  | _ => none
def qBin1 (P : Program) (op : BinOp) (t : TypeId) (x y : Value) : Option Value :=
  match x, y with
  | .int k a, .int l b => match decide (k = l) with
    | true => fbin op k a b
    | false => none
  | _, _ => snil P op t x y
def qBin (P : Program) (tm : Tr Value) (op : BinOp) (t : TypeId) (x y : Operand) : Option Value :=
  match okx x, okx y with
  | true, true => qBin1 P op t (sev tm x) (sev tm y)
  | _, _ => none
def qFunc (tm : Tr Value) (fn : Fn) (as cs : Array Operand) : Option Value :=
  match fn, oks as.toList, oks cs.toList with
  | .func f, true, true => some (.func (.func f) (as.map (sev tm)) (cs.map (sev tm)))
  | _, _, _ => none
def qSlice (P : Program) (tm : Tr Value) (t : TypeId) (x : Operand) (lo hi mx : Option Operand) : Option Value :=
  match mx, okx x, lo.toList.all (fun x => isLit (sev tm x)), hi.toList.all (fun x => isLit (sev tm x)) with
  | none, true, true, true => sslice P t (sev tm x) (lo.map (sev tm)) (hi.map (sev tm))
  | _, _, _, _ => none
def q1 (tm : Tr Value) (x : Operand) (f : Value → Option Value) : Option Value :=
  match okx x with
  | true => f (sev tm x)
  | false => none
def q2 (tm : Tr Value) (x y : Operand) (f : Value → Value → Option Value) : Option Value :=
  match okx x, okx y with
  | true, true => f (sev tm x) (sev tm y)
  | _, _ => none
def sconv (P : Program) (s d : TypeId) (v : Value) : Option Value :=
  match v, und P s, und P d with
  | .int _ n, some _, some (.int k) => match pv P (Conv.intToInt k n) with
    | some u => match isLit u with
      | true => some u
      | false => none
    | none => none
  | _, _, _ => none
def sun (P : Program) (op : UnOp) (v : Value) : Option Value :=
  match isLit v, pv P (Op.unary op v) with
  | true, some u => match isLit u with
    | true => some u
    | false => none
  | _, _ => none
/-- An operation that looks at no memory. -/
def squiet (P : Program) (o : Oper) (tm : Tr Value) : Option Value :=
  match o.op with
  | .move x => qMove tm x
  | .assign x => qMove tm x
  | .nilCheck x => qNil tm x
  | .pick c a b => qPick tm c a b
  | .build t ps => qBuild P tm t ps
  | .binOp op t x y _ => qBin P tm op t x y
  | .unOp op _ x => q1 tm x (sun P op)
  | .convert s d x => q1 tm x (sconv P s d)
  | .makeFunc fn as cs => qFunc tm fn as cs
  | .slice t x lo hi mx => qSlice P tm t x lo hi mx
  | .fieldAddr t x f => q1 tm x (fun v => sfield P t v f)
  | .field t x f => q1 tm x (fun v => sgetf P t v f)
  | .indexAddr t x ix => q2 tm x ix (sindex P t)
  | .index t x ix => q2 tm x ix (sidx P t)
  | .extract x k => q1 tm x (fun v => sextract v k)
  | _ => none
def callArgs (tm : Tr Value) (c : Call) : Option (List Value) :=
  match oks c.args.toList with
  | true => some (c.args.toList.map (sev tm))
  | false => none
def soCall1 (P : Program) (nm : Nat) (c : Call) (tm : Tr Value) (H : Heap) (as : List Value) : Option SRes :=
  match c.callee with
  | .builtin b => sbuiltin P nm b c.argTypes.toList as H
  | .value f => match okx f with
    | true => scall P (sev tm f) as
    | false => none
  | _ => none
def soCall (P : Program) (nm : Nat) (c : Call) (tm : Tr Value) (H : Heap) : Option SRes :=
  match callArgs tm c with
  | some as => soCall1 P nm c tm H as
  | none => none
def soBox (nm : Nat) (t : TypeId) (x : Operand) (tm : Tr Value) (H : Heap) : Option SRes :=
  match okx x with
  | true => ofVH (sbox nm t (sev tm x) H)
  | false => none
def soSlice (P : Program) (nm : Nat) (t : TypeId) (n : Nat) (ps : Array (Nat × Operand)) (tm : Tr Value) (H : Heap) : Option SRes :=
  match oks (ps.toList.map (·.2)) with
  | true => ofVH (sbslice P nm t n (ps.toList.map fun (i, x) => (i, sev tm x)) H)
  | false => none
def soLoad (P : Program) (t : TypeId) (x : Operand) (tm : Tr Value) (H : Heap) : Option SRes :=
  match okx x with
  | true => ofV H (sload P t (sev tm x) H)
  | false => none
def soStore (P : Program) (t : TypeId) (x y : Operand) (tm : Tr Value) (H : Heap) : Option SRes :=
  match okx x, okx y with
  | true, true => match sstore P t (sev tm x) (sev tm y) H with
    | some (H', wr) => some (.val undef H' wr)
    | none => none
  | _, _ => none
def soMake (P : Program) (nm : Nat) (t : TypeId) (l c : Operand) (tm : Tr Value) (H : Heap) : Option SRes :=
  match okx l, okx c with
  | true, true => ofVH (smake P nm t (sev tm l) (sev tm c) H)
  | _, _ => none
def soStr (P : Program) (s d : TypeId) (x : Operand) (tm : Tr Value) (H : Heap) : Option SRes :=
  match okx x with
  | true => ofV H (sstr P s d (sev tm x) H)
  | false => none
def ofU : Option (Heap × List Nat) → Option SRes
  | some (H, wr) => some (.val undef H wr)
  | none => none
def soMap (nm : Nat) (r : Option Operand) (H : Heap) : Option SRes :=
  match r with
  | none => ofVH (smakeMap nm H)
  | some _ => none
def soLook (P : Program) (t : TypeId) (x k : Operand) (ok : Bool) (tm : Tr Value) (H : Heap) : Option SRes :=
  match okx x, okx k with
  | true, true => ofV H (slookup P t (sev tm x) (sev tm k) ok H)
  | _, _ => none
def soUpd (P : Program) (t : TypeId) (x k v : Operand) (tm : Tr Value) (H : Heap) : Option SRes :=
  match okx x, okx k, okx v with
  | true, true, true => ofU (smapUpdate P t (sev tm x) (sev tm k) (sev tm v) H)
  | _, _, _ => none
def soEnt (P : Program) (t : TypeId) (x k : Operand) (tm : Tr Value) (H : Heap) : Option SRes :=
  match okx x, okx k with
  | true, true => ofVHW (smapEntry P t (sev tm x) (sev tm k) H)
  | _, _ => none
def soEnS (x k v : Operand) (tm : Tr Value) (H : Heap) : Option SRes :=
  match okx x, okx k, okx v with
  | true, true, true => ofU (sentryStore (sev tm x) (sev tm k) (sev tm v) H)
  | _, _, _ => none
def sother (P : Program) (nm : Nat) (o : Oper) (tm : Tr Value) (H : Heap) : Option SRes :=
  match o.op with
  | .alloc t => ofVH (salloc P nm t H)
  | .box t x => soBox nm t x tm H
  | .buildSlice t n ps => soSlice P nm t n ps tm H
  | .load t x => soLoad P t x tm H
  | .store t x y => soStore P t x y tm H
  | .makeSlice t l c => soMake P nm t l c tm H
  | .call c => soCall P nm c tm H
  | .convert s d x => soStr P s d x tm H
  | .makeMap _ r => soMap nm r H
  | .lookup t x k ok => soLook P t x k ok tm H
  | .mapUpdate t x k v => soUpd P t x k v tm H
  | .insert t x k v => soUpd P t x k v tm H
  | .mapEntry t x k => soEnt P t x k tm H
  | .entryStore _ x k v => soEnS x k v tm H
  | _ => none
/-- For what the rest is asked. -/
def wantsPure (o : Op) : Bool :=
  match o with
  | .binOp .. => true
  | .unOp .. => true
  | .convert .. => true
  | .index .. => true
  | .slice .. => true
  | .field .. => true
  | .nilCheck .. => true
  | .call c => match c.callee with
    | .builtin _ => true
    | _ => false
  | _ => false
/-- What an operation yields in whatever memory. -/
def sstill (P : Program) (o : Oper) (tm : Tr Value) : Option Value :=
  match squiet P o tm with
  | some v => some v
  | none => match wantsPure o.op with
    | true => spure P tm o
    | false => none
def sop (P : Program) (nm : Nat) (o : Oper) (tm : Tr Value) (H : Heap) : Option SRes :=
  match sstill P o tm with
  | some v => some (.val v H [])
  | none => sother P nm o tm H

/-- What an operation has done. -/
def Did (P : Program) (n0 : Nat) (ρ : Rn) (H : Heap) (W : World) (a : Act) (o : Oper) (v : Value) (H' : Heap) (wr : List Nat) : Prop :=
  ∃ ρ' W' nx v', (execOp a.eval o).run P W = .ok nx W' ∧ (nx = .value v' ∨ (nx = .skip ∧ v' = undef)) ∧ VR ρ' v v' ∧ Okay P n0 ρ H W H' wr ρ' W'
theorem LR.map_ {ρ : Rn} {tm : Tr Value} {a : Act} (h : FR ρ tm a.tmps.toList) : ∀ {l : List Operand}, oks l = true → LR ρ (l.map (sev tm)) (l.map a.eval)
  | [], _ => LR.nil ρ
  | x :: r, hk => by
    simp only [oks, List.all_cons, Bool.and_eq_true] at hk
    exact LR.cons (sev_rel h hk.1) (LR.map_ h hk.2)
theorem PR.map_ {ρ : Rn} {tm : Tr Value} {a : Act} (h : FR ρ tm a.tmps.toList) : ∀ {l : List (Nat × Operand)}, oks (l.map (·.2)) = true → PR ρ (l.map fun (i, x) => (i, sev tm x)) (l.map fun (i, x) => (i, a.eval x))
  | [], _ => trivial
  | (i, x) :: r, hk => by
    simp only [oks, List.map_cons, List.all_cons, Bool.and_eq_true] at hk
    exact ⟨rfl, sev_rel h hk.1, PR.map_ h hk.2⟩
theorem oks_mem {l : List Operand} (h : oks l = true) {x : Operand} (hx : x ∈ l) : okx x = true := List.all_eq_true.1 h x hx
theorem Did.val {n0 : Nat} {ρ : Rn} {H : Heap} {W : World} {a : Act} {o : Oper} {v v' : Value} (h : HR P n0 ρ H W) (hr : (execOp a.eval o).run P W = .ok (.value v') W) (hv : VR ρ v v') : Did P n0 ρ H W a o v H [] :=
  ⟨ρ, W, _, v', hr, .inl rfl, hv, Okay.refl h⟩
theorem ofV_some {H H' : Heap} {r : Option Value} {v : Value} {wr : List Nat} (h : ofV H r = some (.val v H' wr)) : r = some v ∧ H' = H ∧ wr = [] := by
  cases r <;> simp [ofV] at h
  obtain ⟨rfl, rfl, rfl⟩ := h
  exact ⟨rfl, rfl, rfl⟩
theorem ofVH_some {H' : Heap} {r : Option (Value × Heap)} {v : Value} {wr : List Nat} (h : ofVH r = some (.val v H' wr)) : r = some (v, H') ∧ wr = [] := by
  cases r <;> simp [ofVH] at h
  obtain ⟨h1, h2, h3⟩ := h
  exact ⟨by rw [← h1, ← h2], h3⟩
theorem ofVHW_some {H' : Heap} {r : Option (Value × Heap × List Nat)} {v : Value} {wr : List Nat} (h : ofVHW r = some (.val v H' wr)) : r = some (v, H', wr) := by
  cases r <;> simp [ofVHW] at h
  obtain ⟨h1, h2, h3⟩ := h
  rw [← h1, ← h2, ← h3]
theorem ofU_some {H' : Heap} {r : Option (Heap × List Nat)} {v : Value} {wr : List Nat} (h : ofU r = some (.val v H' wr)) : r = some (H', wr) ∧ v = undef := by
  cases r <;> simp [ofU] at h
  obtain ⟨h1, h2, h3⟩ := h
  exact ⟨by rw [← h2, ← h3], h1.symm⟩
theorem ofU_call {r : Option (Heap × List Nat)} {f : FuncId} {as : List Value} (h : ofU r = some (.call f as)) : False := by cases r <;> simp [ofU] at h
theorem ofV_call {H : Heap} {r : Option Value} {f : FuncId} {as : List Value} (h : ofV H r = some (.call f as)) : False := by cases r <;> simp [ofV] at h
theorem ofVH_call {r : Option (Value × Heap)} {f : FuncId} {as : List Value} (h : ofVH r = some (.call f as)) : False := by cases r <;> simp [ofVH] at h
theorem ofVHW_call {r : Option (Value × Heap × List Nat)} {f : FuncId} {as : List Value} (h : ofVHW r = some (.call f as)) : False := by cases r <;> simp [ofVHW] at h
theorem sbuiltin_ok {n0 : Nat} {ρ : Rn} {H H' : Heap} {W : World} {nm : Nat} {b : Builtin} {ts : Array TypeId} {as as' : List Value} {v : Value} {wr : List Nat} {ty : TypeId} (hs : sbuiltin P nm b ts.toList as H = some (.val v H' wr)) (hl : LR ρ as as') (h : HR P n0 ρ H W) (h0 : n0 ≤ W.heap.size) :
    ∃ ρ' W' v', (∀ cs : Array Bool, (builtin b ts ty cs as'.toArray).run P W = .ok (.value v') W') ∧ VR ρ' v v' ∧ Okay P n0 ρ H W H' wr ρ' W' := by
  unfold sbuiltin at hs
  have two : ∀ {x y : Value}, as = [x, y] → ∃ x' y', as' = [x', y'] ∧ VR ρ x x' ∧ VR ρ y y' := fun {x y} e => by
    subst e
    match as', hl with
    | [x', y'], hl => exact ⟨x', y', rfl, hl.2 0 _ _ rfl rfl, hl.2 1 _ _ rfl rfl⟩
    | [], hl => have := hl.1; simp at this
    | [_], hl => have := hl.1; simp at this
    | _ :: _ :: _ :: _, hl => have := hl.1; simp at this
  have one : ∀ {x : Value}, as = [x] → ∃ x', as' = [x'] ∧ VR ρ x x' := fun {x} e => by
    subst e
    match as', hl with
    | [x'], hl => exact ⟨x', rfl, hl.2 0 _ _ rfl rfl⟩
    | [], hl => have := hl.1; simp at this
    | _ :: _ :: _, hl => have := hl.1; simp at this
  split at hs
  · rename_i t tx s x hts
    obtain ⟨s', x', rfl, hv, hx⟩ := two rfl
    obtain ⟨ρ', W', u', k1, k2, k3⟩ := sappend_ok (ty := ty) (ofVHW_some hs) hv hx h h0
    have : ts = #[t, tx] := by apply Array.ext'; exact hts
    subst this
    exact ⟨ρ', W', u', fun cs => by simp [builtin, k1], k2, k3⟩
  · rename_i t tx s x hts
    obtain ⟨s', x', rfl, hv, hx⟩ := two rfl
    obtain ⟨W', k1, k2, k3⟩ := scopy_ok (ty := ty) (tx := tx) (ofVHW_some hs) hv hx h
    have : ts = #[t, tx] := by apply Array.ext'; exact hts
    subst this
    exact ⟨ρ, W', v, fun cs => by simp [builtin, k1], .lit k2, k3⟩
  · rename_i t x hts
    obtain ⟨x', rfl, hx⟩ := one rfl
    obtain ⟨e1, rfl, rfl⟩ := ofV_some hs
    obtain ⟨k1, k2⟩ := slen_ok (ty := ty) e1 hx h
    have : ts = #[t] := by apply Array.ext'; exact hts
    subst this
    exact ⟨ρ, W, v, fun cs => by simp [builtin, k1], .lit k2, Okay.refl h⟩
  · rename_i t x hts
    obtain ⟨x', rfl, hx⟩ := one rfl
    obtain ⟨e1, rfl, rfl⟩ := ofV_some hs
    obtain ⟨k1, k2⟩ := scap_ok (ty := ty) (W := W) e1 hx
    have : ts = #[t] := by apply Array.ext'; exact hts
    subst this
    exact ⟨ρ, W, v, fun cs => by simp [builtin, k1], .lit k2, Okay.refl h⟩
  · rename_i t tk m k hts
    obtain ⟨m', k', rfl, hm, hk⟩ := two rfl
    obtain ⟨W', k1, k2, k3⟩ := sdelete_ok (ty := ty) (tk := tk) (ofVHW_some hs) hm hk h
    have : ts = #[t, tk] := by apply Array.ext'; exact hts
    subst this
    exact ⟨ρ, W', v, fun cs => by simp [builtin, k1], .lit k2, k3⟩
  · rename_i t x hts
    obtain ⟨x', rfl, hx⟩ := one rfl
    obtain ⟨W', k1, k2, k3⟩ := sclear_ok (ty := ty) (ofVHW_some hs) hx h
    have : ts = #[t] := by apply Array.ext'; exact hts
    subst this
    exact ⟨ρ, W', v, fun cs => by simp [builtin, k1], .lit k2, k3⟩
  · cases hs

end
end Go.Proofs.YtfnphhmcbdoojaaGreatDoor.Sim
