/- Several texts in one. -/
import Derived.Test.YtmcefodfppdajaaSim1
/- Symbolic run of an operation of whatever kind. No program is named here. -/
set_option linter.unusedSimpArgs false
namespace Go.Proofs.Ytmcefodfppdajaa.Sim
open Go Go.RowKit Go.WideShapes

noncomputable section

variable {P : Program}
def sev (tm : Tr Value) : Operand → Value
  | .tmp t => tm.get undef t
  | .const v => v
  | .global g => .pointer (some ⟨g, 0, none⟩)
  | .func f => .func (.func f) #[] #[]
def okx : Operand → Bool
  | .tmp _ => true
  | .const v => isLit v
  | .global _ => false
  | .func _ => true
theorem sev_rel {ρ : Rn} {tm : Tr Value} {a : Act} (h : FR ρ tm a.tmps.toList) {x : Operand} (hx : okx x = true) : VR ρ (sev tm x) (a.eval x) := by
  cases x with
  | tmp t =>
    simp only [sev, Act.eval]
    rw [Array.getD_eq_getD_getElem?]
    have := h.get t
    rwa [Array.getElem?_toList] at this
  | const v => exact .lit hx
  | global g => cases hx
  | func f => exact .lit rfl
theorem sev_lit {ρ : Rn} {tm : Tr Value} {a : Act} (h : FR ρ tm a.tmps.toList) {x : Operand} (hx : isLit (sev tm x) = true) : a.eval x = sev tm x := by
  have : okx x = true := by
    cases x <;> first
      | rfl
      | exact hx
      | (simp [sev, isLit, aggLit, cellLit] at hx)
  exact (sev_rel h this).lit_eq hx
def noSel : Op → Bool
  | .select _ _ => false
  | _ => true
def spure (P : Program) (tm : Tr Value) (o : Oper) : Option Value :=
  match noSel o.op, o.op.operands.toList.all (fun x => isLit (sev tm x)) with
  | true, true => match pv P (execOp (sev tm) o) with
    | some (.value v) => match isLit v with
      | true => some v
      | false => none
    | _ => none
  | _, _ => none
theorem spure_ok {ρ : Rn} {tm : Tr Value} {a : Act} {o : Oper} {v : Value} (hs : spure P tm o = some v) (h : FR ρ tm a.tmps.toList) (W : World) : (execOp a.eval o).run P W = .ok (.value v) W ∧ isLit v = true := by
  unfold spure at hs
  split at hs
  · rename_i h1 h2
    have he : execOp a.eval o = execOp (sev tm) o := execOp_congr o (fun cs b e => by rw [e] at h1; cases h1) fun x hx => sev_lit h (List.all_eq_true.1 h2 x (Array.mem_toList_iff.2 hx))
    split at hs
    · rename_i u hp
      split at hs
      · rename_i hl
        cases hs
        rw [he]
        exact ⟨pv_run hp W, hl⟩
      · cases hs
    · cases hs
  · cases hs
/-- A function that is entered. -/
def namesOk (P : Program) : Bool := P.funcs.toList.all fun fn => fn.body.isNone || !(fn.name == "runtime.NumGoroutine")
def isFn (P : Program) (f : FuncId) : Bool :=
  match fun1 P f with
  | some fn => fn.body.isSome
  | none => false
theorem isFn_ok (hN : namesOk P = true) {f : FuncId} (h : isFn P f = true) (args : Array Value) (W : World) : (callFunc f args).run P W = .ok (.enter f args) W := by
  unfold isFn at h
  simp only [inf_eq, und_eq, fun1_eq] at h
  split at h
  · rename_i fn hf
    have hb : ¬ fn.body = none := fun e => by rw [e] at h; simp at h
    have hn : ¬ fn.name = "runtime.NumGoroutine" := by
      have := List.all_eq_true.1 hN fn (by rw [← Array.getElem?_toList] at hf; exact List.mem_of_getElem? hf)
      simp only [Bool.or_eq_true, Bool.not_eq_true', beq_eq_false_iff_ne] at this
      rcases this with h1 | h1
      · rw [Option.isNone_iff_eq_none] at h1
        exact absurd h1 hb
      · exact h1
    simp [callFunc, hf, hn, hb]
  · cases h

inductive SRes where
  | val (v : Value) (H : Heap) (wr : List Nat)
  | call (f : FuncId) (args : List Value)
def oks (l : List Operand) : Bool := l.all okx
def ofV (H : Heap) : Option Value → Option SRes
  | some v => some (.val v H [])
  | none => none
def ofVH : Option (Value × Heap) → Option SRes
  | some (v, H) => some (.val v H [])
  | none => none
def ofVHW : Option (Value × Heap × List Nat) → Option SRes
  | some (v, H, wr) => some (.val v H wr)
  | none => none
def salloc (P : Program) (nm : Nat) (t : TypeId) (H : Heap) : Option (Value × Heap) :=
  match inf P t with
  | some i => match i.zero with
    | some z => match isLit z, snew nm t z.cells.toList H with
      | true, some H' => some (.pointer (some ⟨nm, 0, none⟩), H')
      | _, _ => none
    | none => none
  | none => none
def sbox (nm : Nat) (t : TypeId) (v : Value) (H : Heap) : Option (Value × Heap) :=
  match snew nm t v.cells.toList H with
  | some H' => some (.pointer (some ⟨nm, 0, none⟩), H')
  | none => none
def sbuiltin (P : Program) (nm : Nat) (b : Builtin) (ts : List TypeId) (as : List Value) (H : Heap) : Option SRes :=
  match b, ts, as with
  | .append, [t, tx], [s, x] => ofVHW (sappend P nm t tx s x H)
  | .copy, [t, _], [d, s] => ofVHW (scopy P t d s H)
  | .len, [t], [v] => ofV H (slen P t v H)
  | .cap, [t], [v] => ofV H (scap P t v)
  | .delete, [t, _], [m, k] => ofVHW (sdelete P t m k H)
  | .clear, [t], [v] => ofVHW (sclear P t v H)
  | _, _, _ => none
def scall (P : Program) (v : Value) (as : List Value) : Option SRes :=
  match v with
  | .func (.func f) first captured => match isFn P f with
    | true => some (.call f (first.toList ++ as ++ captured.toList))
    | false => none
  | _ => none
def qMove (tm : Tr Value) (x : Operand) : Option Value :=
  match okx x with
  | true => some (sev tm x)
  | false => none
def qNil1 (v : Value) : Option Value :=
  match v with
  | .pointer (some ⟨b, k, none⟩) => some (.pointer (some ⟨b, k, none⟩))
  | _ => none
def qNil (tm : Tr Value) (x : Operand) : Option Value :=
  match okx x with
  | true => qNil1 (sev tm x)
  | false => none
def qPick (tm : Tr Value) (c a b : Operand) : Option Value :=
  match okx c, sev tm c with
  | true, .bool true => qMove tm a
  | true, .bool false => qMove tm b
  | _, _ => none
def qBuild (P : Program) (tm : Tr Value) (t : TypeId) (ps : Array (Nat × Operand)) : Option Value :=
  match oks (ps.toList.map (·.2)) with
  | true => sbuild P t (ps.toList.map fun (i, x) => (i, sev tm x))
  | false => none
def fbin (op : BinOp) (k : IntKind) (a b : Int) : Option Value :=
  match op with
  | .add => some (.int k (k.wrap (a + b)))
  | .sub => some (.int k (k.wrap (a - b)))
  | .mul => some (.int k (k.wrap (a * b)))
  | .eql => some (.bool (a == b))
  | .neq => some (.bool (a != b))
  | .lss => some (.bool (a < b))
  | .leq => some (.bool (a ≤ b))
  | .gtr => some (.bool (a > b))
  | .geq => some (.bool (a ≥ b))
  | _ => none
def qBin1 (P : Program) (op : BinOp) (t : TypeId) (x y : Value) : Option Value :=
  match x, y with
  | .int k a, .int l b => match decide (k = l) with
    | true => fbin op k a b
    | false => none
  | _, _ => snil P op t x y
def qBin (P : Program) (tm : Tr Value) (op : BinOp) (t : TypeId) (x y : Operand) : Option Value :=
  match okx x, okx y with
  | true, true => qBin1 P op t (sev tm x) (sev tm y)
  | _, _ => none
def qFunc (tm : Tr Value) (fn : Fn) (as cs : Array Operand) : Option Value :=
  match fn, oks as.toList, oks cs.toList with
  | .func f, true, true => some (.func (.func f) (as.map (sev tm)) (cs.map (sev tm)))
  | _, _, _ => none
def qSlice (P : Program) (tm : Tr Value) (t : TypeId) (x : Operand) (lo hi mx : Option Operand) : Option Value :=
  match mx, okx x, lo.toList.all (fun x => isLit (sev tm x)), hi.toList.all (fun x => isLit (sev tm x)) with
  | none, true, true, true => sslice P t (sev tm x) (lo.map (sev tm)) (hi.map (sev tm))
  | _, _, _, _ => none
def q1 (tm : Tr Value) (x : Operand) (f : Value → Option Value) : Option Value :=
  match okx x with
  | true => f (sev tm x)
  | false => none
def q2 (tm : Tr Value) (x y : Operand) (f : Value → Value → Option Value) : Option Value :=
  match okx x, okx y with
  | true, true => f (sev tm x) (sev tm y)
  | _, _ => none
def sconv (P : Program) (s d : TypeId) (v : Value) : Option Value :=
  match v, und P s, und P d with
  | .int _ n, some _, some (.int k) => match pv P (Conv.intToInt k n) with
    | some u => match isLit u with
      | true => some u
      | false => none
    | none => none
  | _, _, _ => none
def sun (P : Program) (op : UnOp) (v : Value) : Option Value :=
  match isLit v, pv P (Op.unary op v) with
  | true, some u => match isLit u with
    | true => some u
    | false => none
  | _, _ => none
/-- An operation that looks at no memory. -/
def squiet (P : Program) (o : Oper) (tm : Tr Value) : Option Value :=
  match o.op with
  | .move x => qMove tm x
  | .assign x => qMove tm x
  | .nilCheck x => qNil tm x
  | .pick c a b => qPick tm c a b
  | .build t ps => qBuild P tm t ps
  | .binOp op t x y _ => qBin P tm op t x y
  | .unOp op _ x => q1 tm x (sun P op)
  | .convert s d x => q1 tm x (sconv P s d)
  | .makeFunc fn as cs => qFunc tm fn as cs
  | .slice t x lo hi mx => qSlice P tm t x lo hi mx
  | .fieldAddr t x f => q1 tm x (fun v => sfield P t v f)
  | .field t x f => q1 tm x (fun v => sgetf P t v f)
  | .indexAddr t x ix => q2 tm x ix (sindex P t)
  | .index t x ix => q2 tm x ix (sidx P t)
  | .extract x k => q1 tm x (fun v => sextract v k)
  | _ => none
def callArgs (tm : Tr Value) (c : Call) : Option (List Value) :=
  match oks c.args.toList with
  | true => some (c.args.toList.map (sev tm))
  | false => none
def soCall1 (P : Program) (nm : Nat) (c : Call) (tm : Tr Value) (H : Heap) (as : List Value) : Option SRes :=
  match c.callee with
  | .builtin b => sbuiltin P nm b c.argTypes.toList as H
  | .value f => match okx f with
    | true => scall P (sev tm f) as
    | false => none
  | _ => none
def soCall (P : Program) (nm : Nat) (c : Call) (tm : Tr Value) (H : Heap) : Option SRes :=
  match callArgs tm c with
  | some as => soCall1 P nm c tm H as
  | none => none
def soBox (nm : Nat) (t : TypeId) (x : Operand) (tm : Tr Value) (H : Heap) : Option SRes :=
  match okx x with
  | true => ofVH (sbox nm t (sev tm x) H)
  | false => none
def soSlice (P : Program) (nm : Nat) (t : TypeId) (n : Nat) (ps : Array (Nat × Operand)) (tm : Tr Value) (H : Heap) : Option SRes :=
  match oks (ps.toList.map (·.2)) with
  | true => ofVH (sbslice P nm t n (ps.toList.map fun (i, x) => (i, sev tm x)) H)
  | false => none
def soLoad (P : Program) (t : TypeId) (x : Operand) (tm : Tr Value) (H : Heap) : Option SRes :=
  match okx x with
  | true => ofV H (sload P t (sev tm x) H)
  | false => none
def soStore (P : Program) (t : TypeId) (x y : Operand) (tm : Tr Value) (H : Heap) : Option SRes :=
  match okx x, okx y with
  | true, true => match sstore P t (sev tm x) (sev tm y) H with
    | some (H', wr) => some (.val undef H' wr)
    | none => none
  | _, _ => none
def soMake (P : Program) (nm : Nat) (t : TypeId) (l c : Operand) (tm : Tr Value) (H : Heap) : Option SRes :=
  match okx l, okx c with
  | true, true => ofVH (smake P nm t (sev tm l) (sev tm c) H)
  | _, _ => none
def soStr (P : Program) (s d : TypeId) (x : Operand) (tm : Tr Value) (H : Heap) : Option SRes :=
  match okx x with
  | true => ofV H (sstr P s d (sev tm x) H)
  | false => none
def ofU : Option (Heap × List Nat) → Option SRes
  | some (H, wr) => some (.val undef H wr)
  | none => none
def soMap (nm : Nat) (r : Option Operand) (H : Heap) : Option SRes :=
  match r with
  | none => ofVH (smakeMap nm H)
  | some _ => none
def soLook (P : Program) (t : TypeId) (x k : Operand) (ok : Bool) (tm : Tr Value) (H : Heap) : Option SRes :=
  match okx x, okx k with
  | true, true => ofV H (slookup P t (sev tm x) (sev tm k) ok H)
  | _, _ => none
def soUpd (P : Program) (t : TypeId) (x k v : Operand) (tm : Tr Value) (H : Heap) : Option SRes :=
  match okx x, okx k, okx v with
  | true, true, true => ofU (smapUpdate P t (sev tm x) (sev tm k) (sev tm v) H)
  | _, _, _ => none
def soEnt (P : Program) (t : TypeId) (x k : Operand) (tm : Tr Value) (H : Heap) : Option SRes :=
  match okx x, okx k with
  | true, true => ofVHW (smapEntry P t (sev tm x) (sev tm k) H)
  | _, _ => none
def soEnS (x k v : Operand) (tm : Tr Value) (H : Heap) : Option SRes :=
  match okx x, okx k, okx v with
  | true, true, true => ofU (sentryStore (sev tm x) (sev tm k) (sev tm v) H)
  | _, _, _ => none
def soRange (P : Program) (nm : Nat) (t : TypeId) (x : Operand) (tm : Tr Value) (H : Heap) : Option SRes :=
  match okx x with
  | true => ofVH (srange P nm t (sev tm x) H)
  | false => none
def soNext (x : Operand) (str : Bool) (tm : Tr Value) (H : Heap) : Option SRes :=
  match okx x with
  | true => ofVHW (snext (sev tm x) str H)
  | false => none
def soEntry (x : Operand) (tm : Tr Value) (H : Heap) : Option SRes :=
  match okx x with
  | true => ofV H (sentry (sev tm x) H)
  | false => none
def sother (P : Program) (nm : Nat) (o : Oper) (tm : Tr Value) (H : Heap) : Option SRes :=
  match o.op with
  | .alloc t => ofVH (salloc P nm t H)
  | .box t x => soBox nm t x tm H
  | .buildSlice t n ps => soSlice P nm t n ps tm H
  | .load t x => soLoad P t x tm H
  | .store t x y => soStore P t x y tm H
  | .makeSlice t l c => soMake P nm t l c tm H
  | .call c => soCall P nm c tm H
  | .convert s d x => soStr P s d x tm H
  | .makeMap _ r => soMap nm r H
  | .lookup t x k ok => soLook P t x k ok tm H
  | .mapUpdate t x k v => soUpd P t x k v tm H
  | .insert t x k v => soUpd P t x k v tm H
  | .mapEntry t x k => soEnt P t x k tm H
  | .entryStore _ x k v => soEnS x k v tm H
  | .range t x => soRange P nm t x tm H
  | .next x str => soNext x str tm H
  | .entry x => soEntry x tm H
  | _ => none
/-- For what the rest is asked. -/
def wantsPure (o : Op) : Bool :=
  match o with
  | .binOp .. => true
  | .unOp .. => true
  | .convert .. => true
  | .index .. => true
  | .slice .. => true
  | .field .. => true
  | .nilCheck .. => true
  | .call c => match c.callee with
    | .builtin _ => true
    | _ => false
  | _ => false
/-- What an operation yields in whatever memory. -/
def sstill (P : Program) (o : Oper) (tm : Tr Value) : Option Value :=
  match squiet P o tm with
  | some v => some v
  | none => match wantsPure o.op with
    | true => spure P tm o
    | false => none
def sop (P : Program) (nm : Nat) (o : Oper) (tm : Tr Value) (H : Heap) : Option SRes :=
  match sstill P o tm with
  | some v => some (.val v H [])
  | none => sother P nm o tm H

/-- What an operation has done. -/
def Did (P : Program) (n0 : Nat) (ρ : Rn) (H : Heap) (W : World) (a : Act) (o : Oper) (v : Value) (H' : Heap) (wr : List Nat) : Prop :=
  ∃ ρ' W' nx v', (execOp a.eval o).run P W = .ok nx W' ∧ (nx = .value v' ∨ (nx = .skip ∧ v' = undef)) ∧ VR ρ' v v' ∧ Okay P n0 ρ H W H' wr ρ' W'
theorem LR.map_ {ρ : Rn} {tm : Tr Value} {a : Act} (h : FR ρ tm a.tmps.toList) : ∀ {l : List Operand}, oks l = true → LR ρ (l.map (sev tm)) (l.map a.eval)
  | [], _ => LR.nil ρ
  | x :: r, hk => by
    simp only [oks, List.all_cons, Bool.and_eq_true] at hk
    exact LR.cons (sev_rel h hk.1) (LR.map_ h hk.2)
theorem PR.map_ {ρ : Rn} {tm : Tr Value} {a : Act} (h : FR ρ tm a.tmps.toList) : ∀ {l : List (Nat × Operand)}, oks (l.map (·.2)) = true → PR ρ (l.map fun (i, x) => (i, sev tm x)) (l.map fun (i, x) => (i, a.eval x))
  | [], _ => trivial
  | (i, x) :: r, hk => by
    simp only [oks, List.map_cons, List.all_cons, Bool.and_eq_true] at hk
    exact ⟨rfl, sev_rel h hk.1, PR.map_ h hk.2⟩
theorem oks_mem {l : List Operand} (h : oks l = true) {x : Operand} (hx : x ∈ l) : okx x = true := List.all_eq_true.1 h x hx
theorem Did.val {n0 : Nat} {ρ : Rn} {H : Heap} {W : World} {a : Act} {o : Oper} {v v' : Value} (h : HR P n0 ρ H W) (hr : (execOp a.eval o).run P W = .ok (.value v') W) (hv : VR ρ v v') : Did P n0 ρ H W a o v H [] :=
  ⟨ρ, W, _, v', hr, .inl rfl, hv, Okay.refl h⟩
theorem ofV_some {H H' : Heap} {r : Option Value} {v : Value} {wr : List Nat} (h : ofV H r = some (.val v H' wr)) : r = some v ∧ H' = H ∧ wr = [] := by
  cases r <;> simp [ofV] at h
  obtain ⟨rfl, rfl, rfl⟩ := h
  exact ⟨rfl, rfl, rfl⟩
theorem ofVH_some {H' : Heap} {r : Option (Value × Heap)} {v : Value} {wr : List Nat} (h : ofVH r = some (.val v H' wr)) : r = some (v, H') ∧ wr = [] := by
  cases r <;> simp [ofVH] at h
  obtain ⟨h1, h2, h3⟩ := h
  exact ⟨by rw [← h1, ← h2], h3⟩
theorem ofVHW_some {H' : Heap} {r : Option (Value × Heap × List Nat)} {v : Value} {wr : List Nat} (h : ofVHW r = some (.val v H' wr)) : r = some (v, H', wr) := by
  cases r <;> simp [ofVHW] at h
  obtain ⟨h1, h2, h3⟩ := h
  rw [← h1, ← h2, ← h3]
theorem ofU_some {H' : Heap} {r : Option (Heap × List Nat)} {v : Value} {wr : List Nat} (h : ofU r = some (.val v H' wr)) : r = some (H', wr) ∧ v = undef := by
  cases r <;> simp [ofU] at h
  obtain ⟨h1, h2, h3⟩ := h
  exact ⟨by rw [← h2, ← h3], h1.symm⟩
theorem ofU_call {r : Option (Heap × List Nat)} {f : FuncId} {as : List Value} (h : ofU r = some (.call f as)) : False := by cases r <;> simp [ofU] at h
theorem ofV_call {H : Heap} {r : Option Value} {f : FuncId} {as : List Value} (h : ofV H r = some (.call f as)) : False := by cases r <;> simp [ofV] at h
theorem ofVH_call {r : Option (Value × Heap)} {f : FuncId} {as : List Value} (h : ofVH r = some (.call f as)) : False := by cases r <;> simp [ofVH] at h
theorem ofVHW_call {r : Option (Value × Heap × List Nat)} {f : FuncId} {as : List Value} (h : ofVHW r = some (.call f as)) : False := by cases r <;> simp [ofVHW] at h
theorem sbuiltin_ok {n0 : Nat} {ρ : Rn} {H H' : Heap} {W : World} {nm : Nat} {b : Builtin} {ts : Array TypeId} {as as' : List Value} {v : Value} {wr : List Nat} {ty : TypeId} (hs : sbuiltin P nm b ts.toList as H = some (.val v H' wr)) (hl : LR ρ as as') (h : HR P n0 ρ H W) (h0 : n0 ≤ W.heap.size) :
    ∃ ρ' W' v', (∀ cs : Array Bool, (builtin b ts ty cs as'.toArray).run P W = .ok (.value v') W') ∧ VR ρ' v v' ∧ Okay P n0 ρ H W H' wr ρ' W' := by
  unfold sbuiltin at hs
  have two : ∀ {x y : Value}, as = [x, y] → ∃ x' y', as' = [x', y'] ∧ VR ρ x x' ∧ VR ρ y y' := fun {x y} e => by
    subst e
    match as', hl with
    | [x', y'], hl => exact ⟨x', y', rfl, hl.2 0 _ _ rfl rfl, hl.2 1 _ _ rfl rfl⟩
    | [], hl => have := hl.1; simp at this
    | [_], hl => have := hl.1; simp at this
    | _ :: _ :: _ :: _, hl => have := hl.1; simp at this
  have one : ∀ {x : Value}, as = [x] → ∃ x', as' = [x'] ∧ VR ρ x x' := fun {x} e => by
    subst e
    match as', hl with
    | [x'], hl => exact ⟨x', rfl, hl.2 0 _ _ rfl rfl⟩
    | [], hl => have := hl.1; simp at this
    | _ :: _ :: _, hl => have := hl.1; simp at this
  split at hs
  · rename_i t tx s x hts
    obtain ⟨s', x', rfl, hv, hx⟩ := two rfl
    obtain ⟨ρ', W', u', k1, k2, k3⟩ := sappend_ok (ty := ty) (ofVHW_some hs) hv hx h h0
    have : ts = #[t, tx] := by apply Array.ext'; exact hts
    subst this
    exact ⟨ρ', W', u', fun cs => by simp [builtin, k1], k2, k3⟩
  · rename_i t tx s x hts
    obtain ⟨s', x', rfl, hv, hx⟩ := two rfl
    obtain ⟨W', k1, k2, k3⟩ := scopy_ok (ty := ty) (tx := tx) (ofVHW_some hs) hv hx h
    have : ts = #[t, tx] := by apply Array.ext'; exact hts
    subst this
    exact ⟨ρ, W', v, fun cs => by simp [builtin, k1], .lit k2, k3⟩
  · rename_i t x hts
    obtain ⟨x', rfl, hx⟩ := one rfl
    obtain ⟨e1, rfl, rfl⟩ := ofV_some hs
    obtain ⟨k1, k2⟩ := slen_ok (ty := ty) e1 hx h
    have : ts = #[t] := by apply Array.ext'; exact hts
    subst this
    exact ⟨ρ, W, v, fun cs => by simp [builtin, k1], .lit k2, Okay.refl h⟩
  · rename_i t x hts
    obtain ⟨x', rfl, hx⟩ := one rfl
    obtain ⟨e1, rfl, rfl⟩ := ofV_some hs
    obtain ⟨k1, k2⟩ := scap_ok (ty := ty) (W := W) e1 hx
    have : ts = #[t] := by apply Array.ext'; exact hts
    subst this
    exact ⟨ρ, W, v, fun cs => by simp [builtin, k1], .lit k2, Okay.refl h⟩
  · rename_i t tk m k hts
    obtain ⟨m', k', rfl, hm, hk⟩ := two rfl
    obtain ⟨W', k1, k2, k3⟩ := sdelete_ok (ty := ty) (tk := tk) (ofVHW_some hs) hm hk h
    have : ts = #[t, tk] := by apply Array.ext'; exact hts
    subst this
    exact ⟨ρ, W', v, fun cs => by simp [builtin, k1], .lit k2, k3⟩
  · rename_i t x hts
    obtain ⟨x', rfl, hx⟩ := one rfl
    obtain ⟨W', k1, k2, k3⟩ := sclear_ok (ty := ty) (ofVHW_some hs) hx h
    have : ts = #[t] := by apply Array.ext'; exact hts
    subst this
    exact ⟨ρ, W', v, fun cs => by simp [builtin, k1], .lit k2, k3⟩
  · cases hs

end
end Go.Proofs.Ytmcefodfppdajaa.Sim

/- Symbolic run of an operation of whatever kind: it is what the run is. No program is named here. -/
set_option linter.unusedSimpArgs false
namespace Go.Proofs.Ytmcefodfppdajaa.Sim
open Go Go.RowKit Go.WideShapes

noncomputable section

variable {P : Program}
theorem scall_some {v : Value} {as : List Value} {f : FuncId} {bs : List Value} (h : scall P v as = some (.call f bs)) : ∃ c1 c2, v = .func (.func f) c1 c2 ∧ isFn P f = true ∧ bs = c1.toList ++ as ++ c2.toList := by
  unfold scall at h
  split at h
  · rename_i g c1 c2
    split at h
    · rename_i hf
      cases h
      exact ⟨c1, c2, rfl, hf, rfl⟩
    · cases h
  · cases h
theorem scall_val {v : Value} {as : List Value} {u : Value} {H : Heap} {wr : List Nat} (h : scall P v as = some (.val u H wr)) : False := by
  unfold scall at h
  split at h
  · split at h <;> cases h
  · cases h
theorem VR.func_inv {ρ : Rn} {f : FuncId} {c1 c2 : Array Value} {v' : Value} (h : VR ρ (.func (.func f) c1 c2) v') : ∃ d1 d2, v' = .func (.func f) d1 d2 ∧ LR ρ c1.toList d1.toList ∧ LR ρ c2.toList d2.toList := by
  cases h with
  | lit h =>
    simp only [isLit, aggLit, cellLit, Bool.and_eq_true] at h
    have e1 := size_zero_of h.1
    have e2 := size_zero_of h.2
    subst e1 e2
    exact ⟨_, _, rfl, LR.nil ρ, LR.nil ρ⟩
  | func h1 h2 h3 h4 => exact ⟨_, _, rfl, ⟨by simpa using h1, fun i v v' x y => h2 i v v' (by simpa using x) (by simpa using y)⟩, ⟨by simpa using h3, fun i v v' x y => h4 i v v' (by simpa using x) (by simpa using y)⟩⟩
theorem q1_some {tm : Tr Value} {x : Operand} {f : Value → Option Value} {v : Value} (h : q1 tm x f = some v) : okx x = true ∧ f (sev tm x) = some v := by
  unfold q1 at h
  split at h
  · rename_i hk; exact ⟨hk, h⟩
  · cases h
theorem q2_some {tm : Tr Value} {x y : Operand} {f : Value → Value → Option Value} {v : Value} (h : q2 tm x y f = some v) : okx x = true ∧ okx y = true ∧ f (sev tm x) (sev tm y) = some v := by
  unfold q2 at h
  split at h
  · rename_i hk hl; exact ⟨hk, hl, h⟩
  · cases h
theorem qMove_some {tm : Tr Value} {x : Operand} {v : Value} (h : qMove tm x = some v) : okx x = true ∧ v = sev tm x := by
  unfold qMove at h
  split at h
  · rename_i hk; cases h; exact ⟨hk, rfl⟩
  · cases h
theorem fbin_ok {op : BinOp} {k : IntKind} {a b : Int} {v : Value} (h : fbin op k a b = some v) (t : TypeId) (x y : Operand) (W : World) : (do eqGuard op t x y (.int k a) (.int k b); binOp op t (.int k a) (.int k b) : Sem Value).run P W = .ok v W ∧ isLit v = true := by
  cases op <;> simp only [fbin, Option.some.injEq, reduceCtorEq] at h
  all_goals subst h
  all_goals exact ⟨by simp [eqGuard, binOp, Op.intArith, Op.intCmp], rfl⟩
set_option maxHeartbeats 1000000 in
theorem squiet_ok {ρ : Rn} {o : Oper} {tm : Tr Value} {a : Act} {v : Value} (hs : squiet P o tm = some v) (ht : FR ρ tm a.tmps.toList) :
    ∃ v', (∀ W : World, (execOp a.eval o).run P W = .ok (.value v') W) ∧ VR ρ v v' := by
  have hx : ∀ {x : Operand}, okx x = true → VR ρ (sev tm x) (a.eval x) := fun {x} hm => sev_rel ht hm
  unfold squiet at hs
  split at hs
  · rename_i x ho
    obtain ⟨hk, rfl⟩ := qMove_some hs
    exact ⟨a.eval x, fun W => by simp [execOp, ho], hx hk⟩
  · rename_i x ho
    obtain ⟨hk, rfl⟩ := qMove_some hs
    exact ⟨a.eval x, fun W => by simp [execOp, ho], hx hk⟩
  · rename_i x ho
    unfold qNil at hs
    split at hs
    · rename_i hk
      have hv := hx hk
      unfold qNil1 at hs
      split at hs
      · rename_i b k he
        cases hs
        rw [he] at hv
        obtain ⟨L, -, e⟩ := hv.ptr_inv
        exact ⟨.pointer (some ⟨L.x, L.s + k, none⟩), fun W => by simp [execOp, ho, e], by rw [e] at hv; exact hv⟩
      · cases hs
    · cases hs
  · rename_i c x y ho
    unfold qPick at hs
    split at hs
    · rename_i hk he
      obtain ⟨hk2, rfl⟩ := qMove_some hs
      have hc := hx hk
      rw [he] at hc
      have e := hc.lit_eq rfl
      exact ⟨a.eval x, fun W => by simp [execOp, ho, e, asBool], hx hk2⟩
    · rename_i hk he
      obtain ⟨hk2, rfl⟩ := qMove_some hs
      have hc := hx hk
      rw [he] at hc
      have e := hc.lit_eq rfl
      exact ⟨a.eval y, fun W => by simp [execOp, ho, e, asBool], hx hk2⟩
    · cases hs
  · rename_i t ps ho
    unfold qBuild at hs
    split at hs
    · rename_i hk
      have hp := PR.map_ ht (l := ps.toList) hk
      obtain ⟨u', k1, k2⟩ := sbuild_ok (qs := ps.map fun (i, x) => (i, a.eval x)) hs (by simpa using hp)
      exact ⟨u', fun W => by simp [execOp, ho, k1], k2⟩
    · cases hs
  · rename_i op t x y yt ho
    unfold qBin at hs
    split at hs
    · rename_i hk1 hk2
      have q1 := hx hk1
      have q2 := hx hk2
      unfold qBin1 at hs
      split at hs
      · rename_i k b l c e1 e2
        rw [e1] at q1
        rw [e2] at q2
        have f1 := q1.int_inv
        have f2 := q2.int_inv
        split at hs
        · rename_i hkl
          have hkl := of_decide_eq_true hkl
          subst hkl
          have hl := (fbin_ok (P := P) hs t x y default).2
          exact ⟨v, fun W => by simp only [execOp, ho, f1, f2]; rw [Sem.run_bind, (fbin_ok (P := P) hs t x y W).1]; rfl, .lit hl⟩
        · cases hs
      · have hl := (snil_ok (W := default) (ox := x) (oy := y) hs q1 q2).2
        exact ⟨v, fun W => by simp only [execOp, ho]; rw [Sem.run_bind, (snil_ok (W := W) (ox := x) (oy := y) hs q1 q2).1]; rfl, .lit hl⟩
    · cases hs
  · rename_i op t x ho
    obtain ⟨hk, hf⟩ := q1_some hs
    unfold sun at hf
    split at hf
    · rename_i u hl hp
      split at hf
      · rename_i hl2
        cases hf
        have e := (hx hk).lit_eq hl
        exact ⟨v, fun W => by simp only [execOp, ho, e]; rw [Sem.run_bind, pv_run hp W]; rfl, .lit hl2⟩
      · cases hf
    · cases hf
  · rename_i s d x ho
    obtain ⟨hk, hf⟩ := q1_some hs
    unfold sconv at hf
    simp only [inf_eq, und_eq, fun1_eq] at hf
    split at hf
    · rename_i k0 n us k hv hus hud
      split at hf
      · rename_i u hp
        split at hf
        · rename_i hl2
          cases hf
          have e := hx hk
          rw [hv] at e
          have e := e.int_inv
          refine ⟨v, fun W => ?_, .lit hl2⟩
          have : (convert s d (.int k0 n)).run P W = .ok v W := by
            unfold convert
            cases us <;> simp [run_underlying hus, run_underlying hud, pv_run hp W]
          simp only [execOp, ho, e]
          rw [Sem.run_bind, this]
          rfl
        · cases hf
      · cases hf
    · cases hf
  · rename_i fn c1 c2 ho
    unfold qFunc at hs
    split at hs
    · rename_i f hk1 hk2
      cases hs
      have q1 := LR.map_ ht hk1
      have q2 := LR.map_ ht hk2
      exact ⟨.func (.func f) (c1.map a.eval) (c2.map a.eval), fun W => by simp [execOp, ho, Instr.makeFunc], .func (by simp) (fun i v v' x y => q1.2 i v v' (by rw [← Array.toList_map, Array.getElem?_toList]; exact x) (by rw [← Array.toList_map, Array.getElem?_toList]; exact y)) (by simp) (fun i v v' x y => q2.2 i v v' (by rw [← Array.toList_map, Array.getElem?_toList]; exact x) (by rw [← Array.toList_map, Array.getElem?_toList]; exact y))⟩
    · cases hs
  · rename_i t x lo hi mx ho
    unfold qSlice at hs
    split at hs
    · rename_i hk hlo hhi
      have el : lo.map a.eval = lo.map (sev tm) := by
        cases lo with
        | none => rfl
        | some y => simp at hlo ⊢; exact sev_lit ht hlo
      have eh : hi.map a.eval = hi.map (sev tm) := by
        cases hi with
        | none => rfl
        | some y => simp at hhi ⊢; exact sev_lit ht hhi
      obtain ⟨u', k1, k2⟩ := sslice_ok hs (hx hk)
      exact ⟨u', fun W => by simp only [execOp, ho, el, eh, Option.map_none]; rw [Sem.run_bind, k1]; rfl, k2⟩
    · cases hs
  · rename_i t x f ho
    obtain ⟨hk, hf⟩ := q1_some hs
    obtain ⟨u', k1, k2⟩ := sfield_ok hf (hx hk)
    exact ⟨u', fun W => by simp [execOp, ho, k1], k2⟩
  · rename_i t x f ho
    obtain ⟨hk, hf⟩ := q1_some hs
    obtain ⟨u', k1, k2⟩ := sgetf_ok hf (hx hk)
    exact ⟨u', fun W => by simp [execOp, ho, k1], k2⟩
  · rename_i t x ix ho
    obtain ⟨hk, hk2, hf⟩ := q2_some hs
    obtain ⟨u', k1, k2⟩ := sindex_ok hf (hx hk) (hx hk2)
    exact ⟨u', fun W => by simp [execOp, ho, k1], k2⟩
  · rename_i t x ix ho
    obtain ⟨hk, hk2, hf⟩ := q2_some hs
    obtain ⟨u', k1, k2⟩ := sidx_ok hf (hx hk) (hx hk2)
    exact ⟨u', fun W => by simp [execOp, ho, k1], k2⟩
  · rename_i x k ho
    obtain ⟨hk, hf⟩ := q1_some hs
    obtain ⟨u', k1, k2⟩ := sextract_ok hf (hx hk)
    exact ⟨u', fun W => by simp only [execOp, ho]; rw [Sem.run_bind, k1]; rfl, k2⟩
  · cases hs
theorem sstill_ok {ρ : Rn} {o : Oper} {tm : Tr Value} {a : Act} {v : Value} (hs : sstill P o tm = some v) (ht : FR ρ tm a.tmps.toList) :
    ∃ v', (∀ W : World, (execOp a.eval o).run P W = .ok (.value v') W) ∧ VR ρ v v' := by
  unfold sstill at hs
  split at hs
  · rename_i u hp
    cases hs
    exact squiet_ok hp ht
  · split at hs
    · have hl := (spure_ok hs ht default).2
      exact ⟨v, fun W => (spure_ok hs ht W).1, .lit hl⟩
    · cases hs
set_option maxHeartbeats 1000000 in
theorem sother_ok {n0 : Nat} {ρ : Rn} {H H' : Heap} {W : World} {nm : Nat} {o : Oper} {tm : Tr Value} {a : Act} {v : Value} {wr : List Nat} (hs : sother P nm o tm H = some (.val v H' wr)) (ht : FR ρ tm a.tmps.toList) (h : HR P n0 ρ H W) (h0 : n0 ≤ W.heap.size) :
    Did P n0 ρ H W a o v H' wr := by
  have hx : ∀ {x : Operand}, okx x = true → VR ρ (sev tm x) (a.eval x) := fun {x} hm => sev_rel ht hm
  unfold sother at hs
  split at hs
  · rename_i t ho
    obtain ⟨e1, rfl⟩ := ofVH_some hs
    unfold salloc at e1
    simp only [inf_eq, und_eq, fun1_eq] at e1
    split at e1
    · rename_i i hi
      split at e1
      · rename_i z hz
        split at e1
        · rename_i H2 hl hn
          cases e1
          obtain ⟨ρ', W', k1, k2, k3⟩ := alloc_ok hi hz hl hn h h0
          exact ⟨ρ', W', _, _, by simp [execOp, ho, k1], .inl rfl, k2, k3⟩
        · cases e1
      · cases e1
    · cases e1
  · rename_i t x ho
    unfold soBox at hs
    split at hs
    · rename_i hk
      obtain ⟨e1, rfl⟩ := ofVH_some hs
      unfold sbox at e1
      split at e1
      · rename_i H2 hn
        cases e1
        obtain ⟨ρ', W', k1, k2, k3⟩ := box_ok hn (hx hk) h h0
        exact ⟨ρ', W', _, _, by simp [execOp, ho, k1], .inl rfl, k2, k3⟩
      · cases e1
    · cases hs
  · rename_i t n ps ho
    unfold soSlice at hs
    split at hs
    · rename_i hk
      obtain ⟨e1, rfl⟩ := ofVH_some hs
      have hp := PR.map_ ht (l := ps.toList) hk
      obtain ⟨ρ', W', u', k1, k2, k3⟩ := sbslice_ok (qs := ps.map fun (i, x) => (i, a.eval x)) e1 (by simpa using hp) h h0
      exact ⟨ρ', W', _, _, by simp [execOp, ho, k1], .inl rfl, k2, k3⟩
    · cases hs
  · rename_i t x ho
    unfold soLoad at hs
    split at hs
    · rename_i hk
      obtain ⟨e1, rfl, rfl⟩ := ofV_some hs
      obtain ⟨u', k1, k2⟩ := sload_ok e1 (hx hk) h
      exact Did.val h (by simp [execOp, ho, k1]) k2
    · cases hs
  · rename_i t x y ho
    unfold soStore at hs
    split at hs
    · rename_i hk1 hk2
      split at hs
      · rename_i H2 wr2 e1
        cases hs
        obtain ⟨W', k1, k2⟩ := sstore_ok e1 (hx hk1) (hx hk2) h
        exact ⟨ρ, W', _, undef, by simp [execOp, ho, k1], .inr ⟨rfl, rfl⟩, .lit rfl, k2⟩
      · cases hs
    · cases hs
  · rename_i t l c ho
    unfold soMake at hs
    split at hs
    · rename_i hk1 hk2
      obtain ⟨e1, rfl⟩ := ofVH_some hs
      obtain ⟨ρ', W', u', k1, k2, k3⟩ := smake_ok e1 (hx hk1) (hx hk2) h h0
      exact ⟨ρ', W', _, _, by simp [execOp, ho, k1], .inl rfl, k2, k3⟩
    · cases hs
  · rename_i c ho
    unfold soCall at hs
    split at hs
    · rename_i as hca
      unfold callArgs at hca
      split at hca
      · rename_i hk
        cases hca
        unfold soCall1 at hs
        split at hs
        · rename_i b hb
          have hl := LR.map_ ht hk
          obtain ⟨ρ', W', v', k1, k2, k3⟩ := sbuiltin_ok (ty := o.type) hs hl h h0
          refine ⟨ρ', W', _, v', ?_, .inl rfl, k2, k3⟩
          have e : (List.map a.eval c.args.toList).toArray = c.args.map a.eval := by apply Array.ext'; simp
          rw [e] at k1
          simp only [execOp, ho, resolve, hb]
          simp [invoke, k1]
        · split at hs
          · exact (scall_val hs).elim
          · cases hs
        · cases hs
      · cases hca
    · cases hs
  · rename_i t d x ho
    unfold soStr at hs
    split at hs
    · rename_i hk
      obtain ⟨e1, rfl, rfl⟩ := ofV_some hs
      obtain ⟨k1, k2⟩ := sstr_ok e1 (hx hk) h
      exact Did.val h (by simp [execOp, ho, k1]) (.lit k2)
    · cases hs
  · rename_i t r ho
    unfold soMap at hs
    split at hs
    · obtain ⟨e1, rfl⟩ := ofVH_some hs
      obtain ⟨ρ', W', v', k1, k2, k3⟩ := smakeMap_ok (t := t) e1 h h0
      exact ⟨ρ', W', _, _, by simp [execOp, ho, k1], .inl rfl, k2, k3⟩
    · cases hs
  · rename_i t x k ok ho
    unfold soLook at hs
    split at hs
    · rename_i hk1 hk2
      obtain ⟨e1, rfl, rfl⟩ := ofV_some hs
      obtain ⟨u', k1, k2⟩ := slookup_ok e1 (hx hk1) (hx hk2) h
      exact Did.val h (by simp [execOp, ho, k1]) k2
    · cases hs
  · rename_i t x k w ho
    unfold soUpd at hs
    split at hs
    · rename_i hk1 hk2 hk3
      obtain ⟨e1, rfl⟩ := ofU_some hs
      obtain ⟨W', k1, k2⟩ := smapUpdate_ok e1 (hx hk1) (hx hk2) (hx hk3) h
      exact ⟨ρ, W', _, undef, by simp [execOp, ho, k1], .inr ⟨rfl, rfl⟩, .lit rfl, k2⟩
    · cases hs
  · rename_i t x k w ho
    unfold soUpd at hs
    split at hs
    · rename_i hk1 hk2 hk3
      obtain ⟨e1, rfl⟩ := ofU_some hs
      obtain ⟨W', k1, k2⟩ := smapUpdate_ok e1 (hx hk1) (hx hk2) (hx hk3) h
      exact ⟨ρ, W', _, undef, by simp [execOp, ho, k1], .inr ⟨rfl, rfl⟩, .lit rfl, k2⟩
    · cases hs
  · rename_i t x k ho
    unfold soEnt at hs
    split at hs
    · rename_i hk1 hk2
      obtain ⟨W', u', k1, k2, k3⟩ := smapEntry_ok (ofVHW_some hs) (hx hk1) (hx hk2) h
      exact ⟨ρ, W', _, _, by simp [execOp, ho, k1], .inl rfl, k2, k3⟩
    · cases hs
  · rename_i t x k w ho
    unfold soEnS at hs
    split at hs
    · rename_i hk1 hk2 hk3
      obtain ⟨e1, rfl⟩ := ofU_some hs
      obtain ⟨W', k1, k2⟩ := sentryStore_ok (t := t) e1 (hx hk1) (hx hk2) (hx hk3) h
      exact ⟨ρ, W', _, undef, by simp [execOp, ho, k1], .inr ⟨rfl, rfl⟩, .lit rfl, k2⟩
    · cases hs
  · rename_i t x ho
    unfold soRange at hs
    split at hs
    · rename_i hk
      obtain ⟨e1, rfl⟩ := ofVH_some hs
      obtain ⟨ρ', W', u', k1, k2, k3⟩ := srange_ok e1 (hx hk) h h0
      exact ⟨ρ', W', _, _, by simp [execOp, ho, k1], .inl rfl, k2, k3⟩
    · cases hs
  · rename_i x str ho
    unfold soNext at hs
    split at hs
    · rename_i hk
      obtain ⟨W', u', k1, k2, k3⟩ := snext_ok (ofVHW_some hs) (hx hk) h o.type
      exact ⟨ρ, W', _, _, by simp [execOp, ho, k1], .inl rfl, k2, k3⟩
    · cases hs
  · rename_i x ho
    unfold soEntry at hs
    split at hs
    · rename_i hk
      obtain ⟨e1, rfl, rfl⟩ := ofV_some hs
      obtain ⟨u', k1, k2⟩ := sentry_ok e1 (hx hk) h
      exact Did.val h (by simp [execOp, ho, k1]) k2
    · cases hs
  · cases hs

end
end Go.Proofs.Ytmcefodfppdajaa.Sim

/- Symbolic run: operations in a region; equal values. No program is named here. -/
set_option linter.unusedSimpArgs false
namespace Go.Proofs.Ytmcefodfppdajaa.Sim
open Go Go.RowKit Go.WideShapes

noncomputable section

variable {P : Program}
theorem sop_val {n0 : Nat} {ρ : Rn} {H H' : Heap} {W : World} {nm : Nat} {o : Oper} {tm : Tr Value} {a : Act} {v : Value} {wr : List Nat} (hs : sop P nm o tm H = some (.val v H' wr)) (ht : FR ρ tm a.tmps.toList) (h : HR P n0 ρ H W) (h0 : n0 ≤ W.heap.size) :
    Did P n0 ρ H W a o v H' wr := by
  unfold sop at hs
  split at hs
  · rename_i u hq
    cases hs
    obtain ⟨v', k1, k2⟩ := sstill_ok hq ht
    exact Did.val h (k1 W) k2
  · exact sother_ok hs ht h h0
theorem sop_call (hN : namesOk P = true) {ρ : Rn} {H : Heap} {nm : Nat} {o : Oper} {tm : Tr Value} {a : Act} {f : FuncId} {bs : List Value} (hs : sop P nm o tm H = some (.call f bs)) (ht : FR ρ tm a.tmps.toList) :
    ∃ args : Array Value, (∀ W : World, (execOp a.eval o).run P W = .ok (.enter f args) W) ∧ LR ρ bs args.toList := by
  unfold sop at hs
  split at hs
  · cases hs
  · unfold sother at hs
    split at hs
    · exact (ofVH_call hs).elim
    · unfold soBox at hs
      split at hs
      · exact (ofVH_call hs).elim
      · cases hs
    · unfold soSlice at hs
      split at hs
      · exact (ofVH_call hs).elim
      · cases hs
    · unfold soLoad at hs
      split at hs
      · exact (ofV_call hs).elim
      · cases hs
    · unfold soStore at hs
      split at hs
      · split at hs <;> cases hs
      · cases hs
    · unfold soMake at hs
      split at hs
      · exact (ofVH_call hs).elim
      · cases hs
    · rename_i c ho
      unfold soCall at hs
      split at hs
      · rename_i as hca
        unfold callArgs at hca
        split at hca
        · rename_i hk
          cases hca
          unfold soCall1 at hs
          split at hs
          · rename_i b hb
            unfold sbuiltin at hs
            split at hs
            · exact (ofVHW_call hs).elim
            · exact (ofVHW_call hs).elim
            · exact (ofV_call hs).elim
            · exact (ofV_call hs).elim
            · exact (ofVHW_call hs).elim
            · exact (ofVHW_call hs).elim
            · cases hs
          · rename_i g hg
            split at hs
            · rename_i hgx
              obtain ⟨c1, c2, e1, hf, rfl⟩ := scall_some hs
              have hv := sev_rel ht hgx
              rw [e1] at hv
              obtain ⟨d1, d2, e2, l1, l2⟩ := hv.func_inv
              have hl := LR.map_ ht hk
              refine ⟨d1 ++ c.args.map a.eval ++ d2, fun W => ?_, ?_⟩
              · simp only [execOp, ho, resolve, hg]
                simp [Deferred.ofValue, e2, invoke, isFn_ok hN hf]
              · simpa using (l1.append hl).append l2
            · cases hs
          · cases hs
        · cases hca
      · cases hs
    · unfold soStr at hs
      split at hs
      · exact (ofV_call hs).elim
      · cases hs
    · unfold soMap at hs
      split at hs
      · exact (ofVH_call hs).elim
      · cases hs
    · unfold soLook at hs
      split at hs
      · exact (ofV_call hs).elim
      · cases hs
    · unfold soUpd at hs
      split at hs
      · exact (ofU_call hs).elim
      · cases hs
    · unfold soUpd at hs
      split at hs
      · exact (ofU_call hs).elim
      · cases hs
    · unfold soEnt at hs
      split at hs
      · exact (ofVHW_call hs).elim
      · cases hs
    · unfold soEnS at hs
      split at hs
      · exact (ofU_call hs).elim
      · cases hs
    · unfold soRange at hs
      split at hs
      · exact (ofVH_call hs).elim
      · cases hs
    · unfold soNext at hs
      split at hs
      · exact (ofVHW_call hs).elim
      · cases hs
    · unfold soEntry at hs
      split at hs
      · exact (ofV_call hs).elim
      · cases hs
    · cases hs
theorem cell_heap {W w : World} {x o : Nat} {s : Option Nat} (h : w.heap[x]? = W.heap[x]?) : w.cell? ⟨x, o, s⟩ = W.cell? ⟨x, o, s⟩ := by simp [World.cell?, h]
theorem sload_at {n0 : Nat} {ρ : Rn} {H : Heap} {W : World} {t : TypeId} {b k : Nat} {v' u : Value} (hs : sload P t (.pointer (some ⟨b, k, none⟩)) H = some u) (hv : VR ρ (.pointer (some ⟨b, k, none⟩)) v') (h : HR P n0 ρ H W) :
    ∃ u' L, ρ b = some L ∧ VR ρ u u' ∧ ∀ w : World, w.heap[L.x]? = W.heap[L.x]? → (Instr.loadAt t v').run P w = .ok u' w := by
  obtain ⟨L, hL, rfl⟩ := hv.ptr_inv
  unfold sload at hs
  simp only [inf_eq, und_eq, fun1_eq] at hs
  split at hs
  · rename_i xs ty hb
    split at hs
    · rename_i d i hu hi
      split at hs
      · rename_i hd
        split at hs
        · rename_i hle
          cases hs
          obtain ⟨ys, h1, h2, h3⟩ := h.cells hb hL k i.size (Nat.le_of_ble_eq_true hle)
          refine ⟨.agg ys.toArray, L, hL, VR.agg_ h1, fun w hw => ?_⟩
          have hl := run_loadCells_list (P := P) w ⟨L.x, L.s + k, none⟩ ys (fun j v hv => by
            have := h3 j v hv
            rw [add_plain] at this ⊢
            rw [cell_heap hw]
            exact this)
          rw [h2] at hl
          simp [Instr.loadAt, Instr.sureAddr, loadVar, Sem.run_bind, agg_get hu, hd, size_get hi, hl]
        · cases hs
      · rename_i hd
        have hlt := (List.getElem?_eq_some_iff.1 hs).1
        obtain ⟨ys, h1, h2, h3⟩ := h.cells hb hL k 1 (by omega)
        obtain ⟨u', a, c⟩ := h1.get (i := 0) (v := u) (by simp [hs])
        refine ⟨u', L, hL, c, fun w hw => ?_⟩
        have hc := h3 0 u' a
        rw [add_plain] at hc
        simp only [Nat.add_zero] at hc
        rw [← cell_heap hw] at hc
        simp [Instr.loadAt, Instr.sureAddr, loadVar, Sem.run_bind, agg_get hu, hd, hc]
    · cases hs
  · cases hs
/-- What a guard sees. -/
theorem VR.bool {ρ : Rn} {v v' : Value} (h : VR ρ v v') (b : Bool) : v = .bool b ↔ v' = .bool b := by
  cases h <;> simp
def boolOf : Value → Option Bool
  | .bool b => some b
  | _ => none
def syl (ops : Array Oper) (tm : Tr Value) (j : Nat) : Option Bool :=
  match (ops[j]?).bind (·.dst) with
  | some t => boolOf (tm.get undef t)
  | none => none
theorem boolOf_rel {ρ : Rn} {v v' : Value} (h : VR ρ v v') : boolOf v = boolOf v' := by cases h <;> rfl
theorem yielded_eq {ρ : Rn} {tm : Tr Value} {a : Act} {ops : Array Oper} (h : FR ρ tm a.tmps.toList) (j : Nat) : syl ops tm j = yielded ops a.tmps j := by
  unfold yielded syl
  cases hd : (ops[j]?).bind (·.dst) with
  | none => rfl
  | some t =>
    have := boolOf_rel (h.get t)
    rw [Array.getElem?_toList] at this
    simp only [Option.bind_some, this]
    cases hv : a.tmps[t]? with
    | none => rfl
    | some v => cases v <;> rfl
theorem wanted_eq {ρ : Rn} {tm : Tr Value} {a : Act} {ops : Array Oper} (h : FR ρ tm a.tmps.toList) (o : Oper) : Region.wanted o (syl ops tm) = Region.wanted o (yielded ops a.tmps) := by
  have : syl ops tm = yielded ops a.tmps := funext fun j => yielded_eq h j
  rw [this]
def putv (dst : Option Tmp) (v : Value) (tm : Tr Value) : Tr Value :=
  match dst with
  | some d => tm.set v d
  | none => tm
theorem putv_rel {ρ : Rn} {tm : Tr Value} {a : Act} (h : FR ρ tm a.tmps.toList) (dst : Option Tmp) {v v' : Value} (hv : VR ρ v v') : FR ρ (putv dst v tm) (a.put dst v').tmps.toList := by
  cases dst with
  | none => exact h
  | some d =>
    simp only [putv, Act.put, Array.toList_setIfInBounds]
    exact h.set d hv

def teq {α : Type} (eq : α → α → Bool) : Tr α → Tr α → Bool
  | .nil, .nil => true
  | .leaf v, .leaf w => eq v w
  | .node h l r, .node k m s => Nat.beq h k && (teq eq l m && teq eq r s)
  | _, _ => false
theorem teq_eq {α : Type} {eq : α → α → Bool} (h : ∀ x y, eq x y = true → x = y) : ∀ {x y : Tr α}, teq eq x y = true → x = y
  | .nil, .nil, _ => rfl
  | .leaf v, .leaf w, e => by rw [h v w (by simpa [teq] using e)]
  | .node a l r, .node k m s, e => by
    simp only [teq, Bool.and_eq_true] at e
    rw [(beq_of _ _).1 e.1, teq_eq h e.2.1, teq_eq h e.2.2]
  | .nil, .leaf _, e => by simp [teq] at e
  | .nil, .node _ _ _, e => by simp [teq] at e
  | .leaf _, .nil, e => by simp [teq] at e
  | .leaf _, .node _ _ _, e => by simp [teq] at e
  | .node _ _ _, .nil, e => by simp [teq] at e
  | .node _ _ _, .leaf _, e => by simp [teq] at e
/-- Equal values. -/
def leqW (eq : Value → Value → Bool) : List Value → List Value → Bool
  | [], [] => true
  | x :: xs, y :: ys => eq x y && leqW eq xs ys
  | _, _ => false
def veq : Nat → Value → Value → Bool
  | 0, _, _ => false
  | d + 1, v, w => match v, w with
    | .bool a, .bool b => a == b
    | .int k a, .int l b => decide (k = l) && decide (a = b)
    | .string a, .string b => decide (a = b)
    | .pointer a, .pointer b => decide (a = b)
    | .slice a n c, .slice b m e => decide (a = b) && (Nat.beq n m && Nat.beq c e)
    | .map a, .map b => decide (a = b)
    | .nilFunc, .nilFunc => true
    | .nilIface, .nilIface => true
    | .func f as cs, .func g bs ds => decide (f = g) && (leqW (veq d) as.toList bs.toList && leqW (veq d) cs.toList ds.toList)
    | .agg as, .agg bs => leqW (veq d) as.toList bs.toList
    | .tuple as, .tuple bs => leqW (veq d) as.toList bs.toList
    | _, _ => false
theorem leqW_eq {eq : Value → Value → Bool} (h : ∀ x y, eq x y = true → x = y) : ∀ {xs ys : List Value}, leqW eq xs ys = true → xs = ys
  | [], [], _ => rfl
  | x :: xs, y :: ys, e => by
    simp only [leqW, Bool.and_eq_true] at e
    rw [h x y e.1, leqW_eq h e.2]
  | [], _ :: _, e => by simp [leqW] at e
  | _ :: _, [], e => by simp [leqW] at e
theorem veq_eq : ∀ (d : Nat) (v w : Value), veq d v w = true → v = w
  | 0, _, _, h => by simp [veq] at h
  | d + 1, v, w, h => by
    have ih := fun {xs ys : List Value} => leqW_eq (eq := veq d) (fun x y => veq_eq d x y) (xs := xs) (ys := ys)
    unfold veq at h
    split at h
    · simp at h; rw [h]
    · simp at h; rw [h.1, h.2]
    · simp at h; rw [h]
    · simp at h; rw [h]
    · simp only [Bool.and_eq_true, decide_eq_true_eq] at h
      rw [h.1, (beq_of _ _).1 h.2.1, (beq_of _ _).1 h.2.2]
    · simp at h; rw [h]
    · rfl
    · rfl
    · simp only [Bool.and_eq_true, decide_eq_true_eq] at h
      rw [h.1, Array.ext' (ih h.2.1), Array.ext' (ih h.2.2)]
    · rw [Array.ext' (ih h)]
    · rw [Array.ext' (ih h)]
    · cases h
def eeq : List (Value × Value × Nat) → List (Value × Value × Nat) → Bool
  | [], [] => true
  | (a, b, c) :: r, (x, y, z) :: s => veq 9 a x && (veq 9 b y && (Nat.beq c z && eeq r s))
  | _, _ => false
theorem eeq_eq : ∀ {l m : List (Value × Value × Nat)}, eeq l m = true → l = m
  | [], [], _ => rfl
  | (a, b, c) :: r, (x, y, z) :: s, h => by
    simp only [eeq, Bool.and_eq_true] at h
    rw [veq_eq _ _ _ h.1, veq_eq _ _ _ h.2.1, (beq_of _ _).1 h.2.2.1, eeq_eq h.2.2.2]
  | [], _ :: _, h => by simp [eeq] at h
  | _ :: _, [], h => by simp [eeq] at h
def oeq : SObj → SObj → Bool
  | .cells xs t, .cells ys u => Nat.beq t u && leqW (veq 9) xs ys
  | .map es k, .map fs l => Nat.beq k l && eeq es fs
  | .iter m a s c, .iter n b t d => Nat.beq m n && (Nat.beq a b && (Nat.beq c d && decide (s = t)))
  | .dead, .dead => true
  | _, _ => false
theorem oeq_eq {o p : SObj} (h : oeq o p = true) : o = p := by
  cases o <;> cases p <;> simp only [oeq, Bool.and_eq_true, Bool.false_eq_true] at h
  · rw [(beq_of _ _).1 h.1, leqW_eq (fun x y => veq_eq 9 x y) h.2]
  · rw [(beq_of _ _).1 h.1, eeq_eq h.2]
  · rw [(beq_of _ _).1 h.1, (beq_of _ _).1 h.2.1, (beq_of _ _).1 h.2.2.1, of_decide_eq_true h.2.2.2]
  · rfl
def heq : Heap → Heap → Bool
  | [], [] => true
  | (b, o) :: r, (c, p) :: s => Nat.beq b c && (oeq o p && heq r s)
  | _, _ => false
theorem heq_eq : ∀ {G H : Heap}, heq G H = true → G = H
  | [], [], _ => rfl
  | (b, o) :: r, (c, p) :: s, h => by
    simp only [heq, Bool.and_eq_true] at h
    rw [(beq_of _ _).1 h.1, oeq_eq h.2.1, heq_eq h.2.2]
  | [], _ :: _, h => by simp [heq] at h
  | _ :: _, [], h => by simp [heq] at h

end
end Go.Proofs.Ytmcefodfppdajaa.Sim

/- Symbolic run of a region, in whatever order. No program is named here. -/
namespace Go.Proofs.Ytmcefodfppdajaa.Sim
open Go Go.RowKit Go.WideShapes

noncomputable section

variable {P : Program}
abbrev CallF := FuncId → List Value → Heap → Nat → Option (Value × Heap × List Nat)
def CallOk (P : Program) (n0 : Nat) (call : CallF) : Prop := ∀ (f : FuncId) (bs : List Value) (H : Heap) (nm : Nat) (v : Value) (H' : Heap) (wr : List Nat), call f bs H nm = some (v, H', wr) →
  ∀ (ρ : Rn) (W : World) (args : Array Value), LR ρ bs args.toList → HR P n0 ρ H W → n0 ≤ W.heap.size → Calls P f args W fun e W' => ∃ ρ' v', e = .returned v' ∧ VR ρ' v v' ∧ Okay P n0 ρ H W H' wr ρ' W'
/-- A frame and a world are what the run says. -/
def Rel (P : Program) (n0 : Nat) (ρ0 : Rn) (H0 : Heap) (W0 : World) (tm : Tr Value) (H : Heap) (wr : List Nat) (a : Act) (W : World) : Prop :=
  ∃ ρ, FR ρ tm a.tmps.toList ∧ a.defers = [] ∧ Okay P n0 ρ0 H0 W0 H wr ρ W
theorem Okay.wr_dom {n0 : Nat} {ρ ρ1 : Rn} {H H1 : Heap} {W W1 : World} {wr wr' : List Nat} (h : Okay P n0 ρ H W H1 wr ρ1 W1) (hs : ∀ b, b ∈ wr → b ∈ wr' ∨ hget H b = none) : Okay P n0 ρ H W H1 wr' ρ1 W1 :=
  ⟨h.ext, h.hr, h.below, fun b o L a hd hn hL => h.fr b o L a hd (fun hb => (hs b hb).elim hn fun e => by rw [e] at a; cases a) hL, fun b o a hn => h.fr1 b o a (fun hb => (hs b hb).elim hn fun e => by rw [e] at a; cases a)⟩
theorem Rel.wr_dom {n0 : Nat} {ρ0 : Rn} {H0 H : Heap} {W0 W : World} {tm : Tr Value} {a : Act} {wr wr' : List Nat} (h : Rel P n0 ρ0 H0 W0 tm H wr a W) (hs : ∀ b, b ∈ wr → b ∈ wr' ∨ hget H0 b = none) : Rel P n0 ρ0 H0 W0 tm H wr' a W := by
  obtain ⟨ρ, h1, h2, h3⟩ := h
  exact ⟨ρ, h1, h2, h3.wr_dom hs⟩
def swant (ops : Array Oper) (o : Oper) (tm : Tr Value) : Bool :=
  match o.guard with
  | none => true
  | some _ => Region.wanted o (syl ops tm)
theorem swant_eq {ρ : Rn} {tm : Tr Value} {a : Act} {ops : Array Oper} (h : FR ρ tm a.tmps.toList) (o : Oper) : swant ops o tm = Region.wanted o (yielded ops a.tmps) := by
  unfold swant
  cases hg : o.guard with
  | none => simp [Region.wanted, hg]
  | some g => exact wanted_eq h o
def runOp (P : Program) (call : CallF) (ops : Array Oper) (base i : Nat) (o : Oper) (tm : Tr Value) (H : Heap) : Option (Tr Value × Heap × List Nat) :=
  match swant ops o tm with
  | false => some (putv o.dst undef tm, H, [])
  | true => match sop P (base + i) o tm H with
    | some (.val v H' wr) => some (putv o.dst v tm, H', wr)
    | some (.call f bs) => match call f bs H (base + i) with
      | some (v, H', wr) => some (putv o.dst v tm, H', wr)
      | none => none
    | none => none
theorem put_defers (a : Act) (dst : Option Tmp) (v : Value) : (a.put dst v).defers = a.defers := by cases dst <;> rfl
theorem runOp_ok (hN : namesOk P = true) {n0 : Nat} {call : CallF} (hc : CallOk P n0 call) {ops : Array Oper} {base i : Nat} {tm tm' : Tr Value} {H H' : Heap} {wr' : List Nat} {o : Oper} (ho : ops[i]? = some o) (hs : runOp P call ops base i o tm H = some (tm', H', wr'))
    {ρ0 : Rn} {H0 : Heap} {W0 : World} (h0 : n0 ≤ W0.heap.size) {wr : List Nat} {a : Act} {W : World} (hr : Rel P n0 ρ0 H0 W0 tm H wr a W) {Q : Exit → Act → World → Prop} {K : Act → World → Prop}
    (hK : ∀ a' W', Rel P n0 ρ0 H0 W0 tm' H' (wr ++ wr') a' W' → K a' W') : wpOp P ops Q i K a W := by
  obtain ⟨ρ, h1, h2, h3⟩ := hr
  have hn : n0 ≤ W.heap.size := Nat.le_trans h0 h3.below.size
  unfold runOp at hs
  unfold wpOp
  rw [ho]
  simp only
  rw [← swant_eq h1 o]
  · split at hs
    · rename_i hw
      cases hs
      rw [hw]
      simp only [Bool.false_eq_true, if_false]
      refine hK _ _ ⟨ρ, putv_rel h1 o.dst (.lit rfl), by rw [put_defers]; exact h2, by simpa using h3⟩
    · rename_i hw
      rw [hw]
      simp only [if_true]
      refine .inl ?_
      unfold Oper.wp
      split at hs
      · rename_i v H2 wr2 hv
        cases hs
        obtain ⟨ρ', W', nx, v', k1, k2, k3, k4⟩ := sop_val hv h1 h3.hr hn
        rw [k1]
        have hfin : K (a.put o.dst v') W' := hK _ _ ⟨ρ', putv_rel (h1.mono k4.ext) o.dst k3, by rw [put_defers]; exact h2, h3.trans k4⟩
        rcases k2 with rfl | ⟨rfl, rfl⟩
        · exact hfin
        · exact hfin
      · rename_i f bs hv
        split at hs
        · rename_i v H2 wr2 hcall
          cases hs
          obtain ⟨args, k1, k2⟩ := sop_call hN hv h1
          rw [k1, Oper.upon_enter]
          refine (hc f bs H (base + i) v H' wr' hcall ρ W args k2 h3.hr hn).mono ?_
          rintro e W' ⟨ρ', v', rfl, k3, k4⟩
          exact hK _ _ ⟨ρ', putv_rel (h1.mono k4.ext) o.dst k3, by rw [put_defers]; exact h2, h3.trans k4⟩
        · cases hs
      · cases hs
/-- In the text's order. -/
def runL (P : Program) (call : CallF) (ops : Array Oper) (base : Nat) : List Oper → Nat → Tr Value → Heap → List Nat → Option (Tr Value × Heap × List Nat)
  | [], _, tm, H, wr => some (tm, H, wr)
  | o :: r, i, tm, H, wr => match runOp P call ops base i o tm H with
    | some (tm', H', []) => runL P call ops base r (Nat.succ i) tm' H' wr
    | some (tm', H', wr') => runL P call ops base r (Nat.succ i) tm' H' (wr ++ wr')
    | none => none
theorem runL_ok (hN : namesOk P = true) {n0 : Nat} {call : CallF} (hc : CallOk P n0 call) {ops : Array Oper} {base : Nat} {ρ0 : Rn} {H0 : Heap} {W0 : World} (h0 : n0 ≤ W0.heap.size) {Q : Exit → Act → World → Prop} {tm' : Tr Value} {H' : Heap} {wr' : List Nat}
    (hQ : ∀ a' W', Rel P n0 ρ0 H0 W0 tm' H' wr' a' W' → Q .normal a' W') : ∀ (l : List Oper) {i : Nat} {tm : Tr Value} {H : Heap} {wr : List Nat} {a : Act} {W : World}, ops.toList.drop i = l → runL P call ops base l i tm H wr = some (tm', H', wr') → Rel P n0 ρ0 H0 W0 tm H wr a W → wpOps P ops Q (List.range' i l.length) a W
  | [], i, tm, H, wr, a, W, hl, hs, hr => by
    simp only [runL, Option.some.injEq, Prod.mk.injEq] at hs
    obtain ⟨rfl, rfl, rfl⟩ := hs
    exact hQ a W hr
  | o :: r, i, tm, H, wr, a, W, hl, hs, hr => by
    have ho : ops[i]? = some o := by
      have h1 : (ops.toList.drop i)[0]? = some o := by rw [hl]; rfl
      rw [List.getElem?_drop] at h1
      simpa using h1
    have hr' : ops.toList.drop (i + 1) = r := by
      rw [show i + 1 = 1 + i from Nat.add_comm i 1, Nat.add_comm 1 i, ← List.drop_drop, hl]
      rfl
    simp only [runL] at hs
    rw [List.length_cons, List.range'_succ, wpOps_cons]
    split at hs
    · rename_i tm2 H2 hop
      refine runOp_ok hN hc ho hop h0 hr fun a' W' hr2 => runL_ok hN hc h0 hQ r hr' hs ?_
      simpa using hr2
    · rename_i tm2 H2 wr2 _ hop
      exact runOp_ok hN hc ho hop h0 hr fun a' W' hr2 => runL_ok hN hc h0 hQ r hr' hs hr2
    · cases hs
theorem runL_all (hN : namesOk P = true) {n0 : Nat} {call : CallF} (hc : CallOk P n0 call) {ops : Array Oper} {base : Nat} {ρ0 : Rn} {H0 : Heap} {W0 : World} (h0 : n0 ≤ W0.heap.size) {Q : Exit → Act → World → Prop} {tm' : Tr Value} {H' : Heap} {wr' : List Nat}
    (hQ : ∀ a' W', Rel P n0 ρ0 H0 W0 tm' H' wr' a' W' → Q .normal a' W') {tm : Tr Value} {H : Heap} {wr : List Nat} {a : Act} {W : World} (hs : runL P call ops base ops.toList 0 tm H wr = some (tm', H', wr')) (hr : Rel P n0 ρ0 H0 W0 tm H wr a W) : wpOps P ops Q (List.range ops.size) a W := by
  have := runL_ok hN hc h0 hQ ops.toList (i := 0) (by simp) hs hr
  rwa [Array.length_toList, ← List.range_eq_range'] at this

end
end Go.Proofs.Ytmcefodfppdajaa.Sim

/- What of a region may come next, by masks of bits. No program is named here. -/
namespace Go.Proofs.Ytmcefodfppdajaa.Sim
open Go Go.RowKit Go.WideShapes

noncomputable section
variable {P : Program}
def amask : List Edge → Nat
  | [] => 0
  | e :: r => match Region.binds .any e with
    | true => Nat.lor (Nat.pow 2 e.on) (amask r)
    | false => amask r
theorem amask_bit (k : Nat) : ∀ es : List Edge, (amask es).testBit k = es.any fun e => Region.binds .any e && e.on == k
  | [] => by simp [amask]
  | e :: r => by
    have ih := amask_bit k r
    simp only [amask, List.any_cons]
    cases hb : Region.binds .any e with
    | true =>
      show (2 ^ e.on ||| amask r).testBit k = _
      rw [Nat.testBit_or, ih, Nat.testBit_two_pow]
      simp
      rfl
    | false => simp [ih]
structure Row where
  i : Nat
  p : Nat
  a : Nat
  o : Oper
def rows : List Oper → Nat → List Row
  | [], _ => []
  | o :: r, i => ⟨i, Nat.pow 2 i, amask o.after.toList, o⟩ :: rows r (Nat.succ i)
def rdy (m : Nat) : List Row → List Row
  | [] => []
  | ⟨i, p, a, o⟩ :: r => match Nat.beq (Nat.land m p) 0, Nat.beq (Nat.land m a) a with
    | true, true => ⟨i, p, a, o⟩ :: rdy m r
    | _, _ => rdy m r
def Msk (m : Nat) (listed : Array Bool) (n : Nat) : Prop := listed.size = n ∧ ∀ k, m.testBit k = listed.getD k false
theorem Msk.zero (n : Nat) : Msk 0 (Array.replicate n false) n := ⟨by simp, fun k => by
  rw [Nat.zero_testBit, Array.getD_eq_getD_getElem?, Array.getElem?_replicate]
  split <;> rfl⟩
theorem Msk.set {m n : Nat} {listed : Array Bool} (h : Msk m listed n) {i : Nat} (hi : i < n) : Msk (Nat.lor m (Nat.pow 2 i)) (listed.setIfInBounds i true) n := ⟨by simp [h.1], fun k => by
  show (m ||| 2 ^ i).testBit k = _
  rw [Nat.testBit_or, Nat.testBit_two_pow, h.2 k, Array.getD_eq_getD_getElem?, Array.getD_eq_getD_getElem?, Array.getElem?_setIfInBounds]
  by_cases hik : i = k
  · subst hik
    simp [h.1, hi]
  · simp [hik]⟩
theorem land_sub {m a : Nat} : Nat.beq (Nat.land m a) a = true ↔ ∀ k, a.testBit k = true → m.testBit k = true := by
  rw [beq_of]
  constructor
  · intro h k hk
    have : (m &&& a).testBit k = a.testBit k := by rw [show m &&& a = a from h]
    rw [Nat.testBit_and, hk] at this
    simpa using this
  · intro h
    show m &&& a = a
    refine Nat.eq_of_testBit_eq fun k => ?_
    rw [Nat.testBit_and]
    cases hk : a.testBit k with
    | false => simp
    | true => simp [h k hk]
theorem land_pow {m i : Nat} : Nat.beq (Nat.land m (Nat.pow 2 i)) 0 = !m.testBit i := by
  have e : Nat.land m (Nat.pow 2 i) = 0 ↔ m.testBit i = false := by
    constructor
    · intro h
      have : (m &&& 2 ^ i).testBit i = false := by rw [show m &&& 2 ^ i = 0 from h, Nat.zero_testBit]
      rw [Nat.testBit_and, Nat.testBit_two_pow] at this
      simpa using this
    · intro h
      show m &&& 2 ^ i = 0
      refine Nat.eq_of_testBit_eq fun k => ?_
      rw [Nat.testBit_and, Nat.testBit_two_pow, Nat.zero_testBit]
      by_cases hk : i = k
      · subst hk; simp [h]
      · simp [hk]
  cases ht : m.testBit i with
  | false => rw [e.2 ht]; rfl
  | true =>
    cases hb : Nat.beq (Nat.land m (Nat.pow 2 i)) 0 with
    | false => rfl
    | true => rw [e.1 ((beq_of _ _).1 hb)] at ht; cases ht
def Row.fine (ops : Array Oper) (x : Row) : Prop := ops[x.i]? = some x.o ∧ x.p = Nat.pow 2 x.i ∧ x.a = amask x.o.after.toList
theorem drop_at {ops : Array Oper} {i : Nat} {o : Oper} {r : List Oper} (hl : ops.toList.drop i = o :: r) : ops[i]? = some o ∧ ops.toList.drop (i + 1) = r := by
  constructor
  · have h1 : (ops.toList.drop i)[0]? = some o := by rw [hl]; rfl
    rw [List.getElem?_drop] at h1
    simpa using h1
  · rw [← List.drop_drop, hl]
    rfl
theorem rows_fine {ops : Array Oper} : ∀ {l : List Oper} {i : Nat}, ops.toList.drop i = l → ∀ x ∈ rows l i, x.fine ops
  | [], _, _, x, hx => by simp [rows] at hx
  | o :: r, i, hl, x, hx => by
    obtain ⟨h1, h2⟩ := drop_at hl
    simp only [rows, List.mem_cons] at hx
    rcases hx with rfl | hx
    · exact ⟨h1, rfl, rfl⟩
    · exact rows_fine h2 x hx
theorem rdy_sub {m : Nat} : ∀ {l : List Row} {x : Row}, x ∈ rdy m l → x ∈ l
  | [], x, h => by simp [rdy] at h
  | ⟨i, p, a, o⟩ :: r, x, h => by
    simp only [rdy] at h
    split at h
    · rcases List.mem_cons.1 h with rfl | h
      · simp
      · exact List.mem_cons_of_mem _ (rdy_sub h)
    · exact List.mem_cons_of_mem _ (rdy_sub h)
theorem rdy_eq {ops : Array Oper} {m : Nat} {listed : Array Bool} (hm : Msk m listed ops.size) : ∀ {l : List Oper} {i : Nat}, ops.toList.drop i = l → i + l.length = ops.size →
    (rdy m (rows l i)).map (·.i) = (List.range' i l.length).filter fun i => !listed.getD i true && ((ops[i]?).map (·.after.all fun e => !Region.binds .any e || listed.getD e.on false)).getD false
  | [], _, _, _ => by simp [rows, rdy]
  | o :: r, i, hl, hn => by
    obtain ⟨h1, h2⟩ := drop_at hl
    simp only [List.length_cons] at hn
    have ih := rdy_eq (m := m) hm (i := i + 1) h2 (by omega)
    have hi : i < ops.size := by omega
    have e1 : Nat.beq (Nat.land m (Nat.pow 2 i)) 0 = !listed.getD i true := by
      rw [land_pow, hm.2 i, Array.getD_eq_getD_getElem?, Array.getD_eq_getD_getElem?]
      rw [Array.getElem?_eq_getElem (by rw [hm.1]; exact hi)]
      rfl
    have e2 : Nat.beq (Nat.land m (amask o.after.toList)) (amask o.after.toList) = (o.after.all fun e => !Region.binds .any e || listed.getD e.on false) := by
      rw [Bool.eq_iff_iff, land_sub]
      rw [← Array.all_toList, List.all_eq_true]
      constructor
      · intro h e he
        cases hb : Region.binds .any e with
        | false => rfl
        | true =>
          have := h e.on (by rw [amask_bit]; exact List.any_eq_true.2 ⟨e, he, by simp [hb]⟩)
          rw [hm.2] at this
          simp [this]
      · intro h k hk
        rw [amask_bit] at hk
        obtain ⟨e, he, hb⟩ := List.any_eq_true.1 hk
        simp only [Bool.and_eq_true, beq_iff_eq] at hb
        have := h e he
        rw [hb.1, hb.2] at this
        rw [hm.2]
        simpa using this
    simp only [rows, rdy, List.length_cons, List.range'_succ, List.filter_cons, h1, Option.map_some, Option.getD_some]
    rw [← e1, ← e2]
    cases ha : Nat.beq (Nat.land m (Nat.pow 2 i)) 0 <;> cases hb : Nat.beq (Nat.land m (amask o.after.toList)) (amask o.after.toList) <;> simp only [Bool.and_true, Bool.and_false, Bool.false_eq_true, if_false, if_true, Bool.and_self, List.map_cons] <;> rw [← ih]
theorem rdy_all {ops : Array Oper} {m : Nat} {listed : Array Bool} (hm : Msk m listed ops.size) : Region.ready .any ops listed = (rdy m (rows ops.toList 0)).map (·.i) := by
  rw [rdy_eq hm (by simp) (by simp)]
  rw [Array.length_toList, ← List.range_eq_range']
  rfl
def cmask (ops : Array Oper) (i : Nat) (oi : Oper) : List Oper → Nat → Nat
  | [], _ => 0
  | oj :: r, j => match Nat.beq j i || (oj.after.toList.any (fun e => Region.binds .any e && Nat.beq e.on i) || oi.apart ops oj) with
    | true => cmask ops i oi r (Nat.succ j)
    | false => Nat.lor (Nat.pow 2 j) (cmask ops i oi r (Nat.succ j))
theorem cmask_bit {ops : Array Oper} {i : Nat} {oi : Oper} : ∀ {l : List Oper} {j : Nat} (d : Nat) {oj : Oper}, l[d]? = some oj → (Nat.beq (j + d) i || (oj.after.toList.any (fun e => Region.binds .any e && Nat.beq e.on i) || oi.apart ops oj)) = false → (cmask ops i oi l j).testBit (j + d) = true
  | [], _, d, _, h, _ => by simp at h
  | o :: r, j, 0, oj, h, hf => by
    simp only [List.getElem?_cons_zero, Option.some.injEq] at h
    subst h
    simp only [Nat.add_zero] at hf ⊢
    simp only [cmask, hf]
    show (2 ^ j ||| cmask ops i oi r (j + 1)).testBit j = true
    rw [Nat.testBit_or, Nat.testBit_two_pow]
    simp
  | o :: r, j, d + 1, oj, h, hf => by
    have := cmask_bit (ops := ops) (i := i) (oi := oi) (l := r) (j := j + 1) d (by simpa using h) (by rw [show j + 1 + d = j + (d + 1) by omega]; exact hf)
    rw [show j + 1 + d = j + (d + 1) by omega] at this
    simp only [cmask]
    split
    · exact this
    · show (2 ^ j ||| cmask ops i oi r (j + 1)).testBit (j + (d + 1)) = true
      rw [Nat.testBit_or, this]
      simp
def freeM (ops : Array Oper) (m i : Nat) (oi : Oper) : Bool := Nat.beq (Nat.land m (cmask ops i oi ops.toList 0)) (cmask ops i oi ops.toList 0)
theorem freeM_eq {ops : Array Oper} {m : Nat} {listed : Array Bool} (hm : Msk m listed ops.size) {i : Nat} {oi : Oper} (hi : ops[i]? = some oi) (h : freeM ops m i oi = true) : Region.free .any ops listed i = true := by
  unfold Region.free
  rw [hi]
  simp only [List.all_eq_true, List.mem_range]
  intro j hj
  have hoj : ops[j]? = some ops[j] := Array.getElem?_eq_getElem hj
  rw [hoj]
  simp only
  cases hc : (Nat.beq (0 + j) i || (ops[j].after.toList.any (fun e => Region.binds .any e && Nat.beq e.on i) || oi.apart ops ops[j])) with
  | true =>
    simp only [Bool.or_eq_true, Nat.zero_add] at hc ⊢
    rcases hc with hc | hc | hc
    · exact .inl (.inl (by simpa using (beq_of _ _).1 hc))
    · refine .inr (.inl ?_)
      rw [← Array.any_toList]
      obtain ⟨e, he, hb⟩ := List.any_eq_true.1 hc
      simp only [Bool.and_eq_true] at hb
      exact List.any_eq_true.2 ⟨e, he, by simp [hb.1, (beq_of _ _).1 hb.2]⟩
    · exact .inr (.inr hc)
  | false =>
    have h1 := cmask_bit (ops := ops) (i := i) (oi := oi) (l := ops.toList) (j := 0) j (by rw [Array.getElem?_toList]; exact hoj) hc
    have h2 := land_sub.1 h _ h1
    rw [hm.2, Nat.zero_add, Array.getD_eq_getD_getElem?, Array.getElem?_eq_getElem (by rw [hm.1]; exact hj)] at h2
    rw [Array.getD_eq_getD_getElem?, Array.getElem?_eq_getElem (by rw [hm.1]; exact hj)]
    simp only [Option.getD_some] at h2 ⊢
    simp [h2]
end
end Go.Proofs.Ytmcefodfppdajaa.Sim

/- Whatever order a region draws, with a condition on the world that looks at what has come up. No program is named here. -/
namespace Go.Proofs.Ytmcefodfppdajaa.Sim
open Go Go.RowKit Go.WideShapes

noncomputable section
section
variable {P : Program} {ops : Array Oper} {Q : Exit → Act → World → Prop} {S : Array Bool → World → Prop}
/-- Whatever comes up next: S of what has come up holds behind it, and so on. -/
def Goes (P : Program) (ops : Array Oper) (Q : Exit → Act → World → Prop) (S : Array Bool → World → Prop) : Nat → Array Bool → Act → World → Prop
  | 0, L, a, w => Region.ready .any ops L = [] ∧ Q .normal a w
  | n + 1, L, a, w => (Region.ready .any ops L = [] → Q .normal a w) ∧
    ∀ i, i ∈ Region.ready .any ops L → wpOp P ops Q i (fun a' w' => S (L.setIfInBounds i true) w' ∧ Goes P ops Q S n (L.setIfInBounds i true) a' w') a w
theorem Goes.any : ∀ (n : Nat) (L : Array Bool) (a : Act) (w : World), Goes P ops Q S n L a w → wpAny P .any ops Q n L a w
  | 0, _, _, _, h => h
  | n + 1, _, _, _, h => ⟨h.1, fun i hi => wpOp_mono (fun a' w' k => Goes.any n _ a' w' k.2) (h.2 i hi)⟩
theorem Goes.done {L : Array Bool} {a : Act} {w : World} (hr : Region.ready .any ops L = []) (h : Q .normal a w) : ∀ n, Goes P ops Q S n L a w
  | 0 => ⟨hr, h⟩
  | _ + 1 => ⟨fun _ => h, by rw [hr]; simp⟩
theorem Goes.all {rs : List Nat} {n : Nat} {L : Array Bool} {a : Act} {w : World} (hr : Region.ready .any ops L = rs) (hne : rs ≠ []) (h : ∀ i, i ∈ rs → wpOp P ops Q i (fun a' w' => S (L.setIfInBounds i true) w' ∧ Goes P ops Q S n (L.setIfInBounds i true) a' w') a w) : Goes P ops Q S (n + 1) L a w :=
  ⟨fun h0 => absurd (hr ▸ h0) hne, hr ▸ h⟩
/-- Those of D have not come up, and each waits for i or for one of D. -/
def Waits (ops : Array Oper) (D : Nat → Bool) (i : Nat) (L : Array Bool) : Prop := ∀ k, D k = true → L.getD k false = false ∧ ∃ o, ops[k]? = some o ∧ ∃ e ∈ o.after, Region.binds .any e = true ∧ (e.on = i ∨ D e.on = true)
theorem Waits.step {D : Nat → Bool} {i j : Nat} {L : Array Bool} (h : Waits ops D i L) (hiL : L.getD i true = false) (hj : j ∈ Region.ready .any ops L) : Waits ops D i (L.setIfInBounds j true) := fun k hk => by
  obtain ⟨h1, h2⟩ := h k hk
  refine ⟨?_, h2⟩
  rw [getD_set_ne false ?_]
  · exact h1
  · rintro rfl
    obtain ⟨o, ho, e, he, hb, hon⟩ := h2
    obtain ⟨-, o2, ho2, hall⟩ := mem_ready.1 hj
    rw [ho] at ho2
    cases ho2
    have := hall e he hb
    rcases hon with hon | hon
    · rw [hon] at this
      rcases Nat.lt_or_ge i L.size with hlt | hge
      · simp [hlt] at hiL this
        rw [hiL] at this
        cases this
      · simp [Array.getElem?_eq_none hge] at this
    · rw [(h _ hon).1] at this
      cases this
/-- An operation may be taken first if it yields in every world that meets S of such as hold nothing of D. -/
theorem Goes.take {i : Nat} {oi : Oper} {v : Value} {D : Nat → Bool} (hi : ops[i]? = some oi) (hs : Region.noSelect ops = true) (hQ : ∀ c a w, Q (.panic c) (a.put oi.dst v) w → Q (.panic c) a w)
    (hup : ∀ L w, S L w → S (L.setIfInBounds i true) w) (hdown : ∀ L w, S (L.setIfInBounds i true) w → S L w) :
    ∀ (n : Nat) (L : Array Bool) (a : Act) (w : World),
      (∀ j oj, ops[j]? = some oj → j ≠ i → L.getD j true = false → (∀ e ∈ oj.after, Region.binds .any e = true → e.on ≠ i) → oi.apart ops oj = true) →
      i ∈ Region.ready .any ops L → Waits ops D i L → YieldsIf P ops (fun w => ∃ L, (∀ k, D k = true → L.getD k false = false) ∧ S L w) oi v a → S L w →
      Goes P ops Q S n (L.setIfInBounds i true) (a.put oi.dst v) w → Goes P ops Q S (n + 1) L a w := by
  intro n
  have now : ∀ {n : Nat} {L : Array Bool} {a : Act} {w : World}, Waits ops D i L → YieldsIf P ops (fun w => ∃ L, (∀ k, D k = true → L.getD k false = false) ∧ S L w) oi v a → S L w →
      Goes P ops Q S n (L.setIfInBounds i true) (a.put oi.dst v) w → wpOp P ops Q i (fun a' w' => S (L.setIfInBounds i true) w' ∧ Goes P ops Q S n (L.setIfInBounds i true) a' w') a w :=
    fun {n L a w} hD hy hS H => hy.wpOp hi ⟨L, fun k hk => (hD k hk).1, hS⟩ ⟨hup L w hS, H⟩
  induction n with
  | zero =>
    intro L a w _ hr hD hy hS H
    refine ⟨fun h => (by rw [h] at hr; cases hr), fun j hj => ?_⟩
    by_cases hji : j = i
    · subst hji
      exact now hD hy hS H
    · have := ready_mono hj hji
      rw [H.1] at this
      cases this
  | succ n ih =>
    intro L a w hf hr hD hy hS H
    refine ⟨fun h => (by rw [h] at hr; cases hr), fun j hj => ?_⟩
    by_cases hji : j = i
    · subst hji
      exact now hD hy hS H
    · have h1 := H.2 j (ready_mono hj hji)
      obtain ⟨hju, oj, hoj, hall⟩ := mem_ready.1 hj
      have hiu := (mem_ready.1 hr).1
      have hnot : ∀ e ∈ oj.after, Region.binds .any e = true → e.on ≠ i := fun e he hb heq => by
        have h2 := hall e he hb
        rw [heq] at h2
        rcases Nat.lt_or_ge i L.size with hlt | hge
        · simp [hlt] at hiu h2
          rw [hiu] at h2
          cases h2
        · simp [Array.getElem?_eq_none hge] at h2
      have hsel := fun (j : Nat) (o : Oper) (cs : Array SelectCase) (b : Bool) (h : ops[j]? = some o) => Region.noSelect_spec hs j o cs b h
      have h2 := wpOp_putIf hoj (hf j oj hoj hji hju hnot) (fun cs b => hsel i oi cs b hi) (fun cs b => hsel j oj cs b hoj) hQ hy h1
      refine wpOp_mono (fun a' w' h3 => ?_) h2
      rw [Array.setIfInBounds_comm _ _ (Ne.symm hji)] at h3
      refine ⟨hdown _ _ h3.2.1, ih (L.setIfInBounds j true) a' w' (fun k ok hk hki hun hno => ?_) (ready_mono hr (Ne.symm hji)) (hD.step hiu hj) h3.1 (hdown _ _ h3.2.1) h3.2.2⟩
      refine hf k ok hk hki ?_ hno
      by_cases hjk : j = k
      · subst hjk; exact hju
      · rwa [getD_set_ne true hjk] at hun
end
/-- The masks of those that wait for one of acc, directly or not (one pass). -/
def later : List Row → Nat → Nat
  | [], acc => acc
  | ⟨_, p, a, _⟩ :: r, acc => match Nat.beq (Nat.land a acc) 0 with
    | true => later r acc
    | false => later r (Nat.lor acc p)
theorem later_bit {ops : Array Oper} {k : Nat} : ∀ {T : List Row} {acc : Nat}, (∀ x ∈ T, x.fine ops) → (∀ k, acc.testBit k = true → (later T acc).testBit k = true) ∧ ((later T acc).testBit k = true → acc.testBit k = true ∨ ∃ o, ops[k]? = some o ∧ ∃ e ∈ o.after, Region.binds .any e = true ∧ (later T acc).testBit e.on = true)
  | [], acc, _ => ⟨fun _ h => h, fun h => .inl h⟩
  | ⟨i, p, a, o⟩ :: r, acc, hT => by
    have hr : ∀ x ∈ r, x.fine ops := fun x hx => hT x (by simp [hx])
    obtain ⟨f1, f2, f3⟩ := hT ⟨i, p, a, o⟩ (by simp)
    simp only at f1 f2 f3
    simp only [later]
    split
    · exact later_bit hr
    · rename_i hne
      obtain ⟨g1, g2⟩ := later_bit (k := k) (acc := Nat.lor acc p) hr
      have up : ∀ k, acc.testBit k = true → (Nat.lor acc p).testBit k = true := fun k hk => by
        show (acc ||| p).testBit k = true
        rw [Nat.testBit_or, hk]
        rfl
      refine ⟨fun k hk => g1 k (up k hk), fun hk => ?_⟩
      rcases g2 hk with h | h
      · rw [show Nat.lor acc p = acc ||| p from rfl, Nat.testBit_or, Bool.or_eq_true] at h
        rcases h with h | h
        · exact .inl h
        · rw [f2, show Nat.pow 2 i = 2 ^ i from rfl, Nat.testBit_two_pow] at h
          have hik : i = k := by simpa using h
          subst hik
          right
          have hz : a &&& acc ≠ 0 := fun e => by
            rw [show Nat.land a acc = 0 from e] at hne
            simp at hne
          obtain ⟨q, hq⟩ := Nat.exists_testBit_of_ne_zero hz
          rw [Nat.testBit_and, Bool.and_eq_true] at hq
          rw [f3, amask_bit] at hq
          obtain ⟨e, he, hb⟩ := List.any_eq_true.1 hq.1
          simp only [Bool.and_eq_true, beq_iff_eq] at hb
          exact ⟨o, f1, e, by simpa using he, hb.1, g1 _ (by rw [hb.2]; exact up q hq.2)⟩
      · exact .inr h
def dmask (T : List Row) (p : Nat) : Nat := Nat.xor (later T p) p
theorem dmask_waits {ops : Array Oper} {T : List Row} (hT : ∀ x ∈ T, x.fine ops) {i m n : Nat} {L : Array Bool} (hm : Msk m L n) (hd : Nat.beq (Nat.land m (dmask T (Nat.pow 2 i))) 0 = true) : Waits ops (fun k => (dmask T (Nat.pow 2 i)).testBit k) i L := fun k hk => by
  have hx : ∀ q, (dmask T (Nat.pow 2 i)).testBit q = ((later T (2 ^ i)).testBit q ^^ decide (i = q)) := fun q => by
    unfold dmask
    show (later T (2 ^ i) ^^^ 2 ^ i).testBit q = _
    rw [Nat.testBit_xor, Nat.testBit_two_pow]
  have hself : (later T (2 ^ i)).testBit i = true := (later_bit (k := i) hT).1 i (by rw [Nat.testBit_two_pow]; simp)
  simp only at hk
  refine ⟨?_, ?_⟩
  · rw [← hm.2]
    have e : (m &&& dmask T (Nat.pow 2 i)) = 0 := (beq_of _ _).1 hd
    have : (m &&& dmask T (Nat.pow 2 i)).testBit k = false := by rw [e, Nat.zero_testBit]
    rw [Nat.testBit_and, hk] at this
    simpa using this
  · rw [hx] at hk
    by_cases hik : i = k
    · subst hik
      rw [hself] at hk
      simp at hk
    · simp [hik] at hk
      rcases (later_bit (k := k) hT).2 hk with h | ⟨o, h1, e, h2, h3, h4⟩
      · rw [Nat.testBit_two_pow] at h
        exact absurd (by simpa using h) hik
      · refine ⟨o, h1, e, h2, h3, ?_⟩
        by_cases hie : i = e.on
        · exact .inl hie.symm
        · right
          show (dmask T (Nat.pow 2 i)).testBit e.on = true
          rw [hx, h4]
          simp [hie]
end
end Go.Proofs.Ytmcefodfppdajaa.Sim

/- Symbolic run of a region that draws its order. No program is named here. -/
namespace Go.Proofs.Ytmcefodfppdajaa.Sim
open Go Go.RowKit Go.WideShapes

noncomputable section
variable {P : Program}
def wsHas (b : Nat) : List (Nat × Nat) → Bool
  | [] => false
  | (_, c) :: r => match Nat.beq b c with
    | true => true
    | false => wsHas b r
theorem wsHas_no {b : Nat} : ∀ {ws : List (Nat × Nat)}, wsHas b ws = false → b ∉ ws.map (·.2)
  | [], _ => by simp
  | (i, c) :: r, h => by
    simp only [wsHas] at h
    split at h
    · cases h
    · rename_i hc
      have := wsHas_no h
      have hne : b ≠ c := fun e => by subst e; simp [Nat.beq_refl] at hc
      simp at this ⊢
      exact ⟨hne, this⟩
/-- What may be taken first: what yields in whatever memory, and loads of what the region has not written. -/
def takeV (P : Program) (ops : Array Oper) (ws : List (Nat × Nat)) (H0 : Heap) (o : Oper) (tm : Tr Value) (H : Heap) : Option (Option Tmp × Value × Option Nat) :=
  match swant ops o tm with
    | false => some (o.dst, undef, none)
    | true => match sstill P o tm with
      | some v => some (o.dst, v, none)
      | none => match o.op with
        | .load t x => match okx x, sev tm x with
          | true, .pointer (some ⟨b, k, none⟩) => match hget H0 b, wsHas b ws with
            | some ob, false => match isDead ob, sload P t (.pointer (some ⟨b, k, none⟩)) H with
              | false, some v => some (o.dst, v, some b)
              | _, _ => none
            | _, _ => none
          | _, _ => none
        | _ => none
structure Took where
  i : Nat
  p : Nat
  d : Option Tmp
  v : Value
  ld : List (Nat × Nat)
def findT (P : Program) (ops : Array Oper) (T : List Row) (m : Nat) (ws : List (Nat × Nat)) (H0 : Heap) (tm : Tr Value) (H : Heap) : List Row → Option Took
  | [] => none
  | ⟨j, p, _, o⟩ :: r => match takeV P ops ws H0 o tm H with
    | some (d, v, none) => match freeM ops m j o with
      | true => some ⟨j, p, d, v, []⟩
      | false => findT P ops T m ws H0 tm H r
    | some (d, v, some b) => match freeM ops m j o, Nat.beq (Nat.land m (dmask T p)) 0 with
      | true, true => some ⟨j, p, d, v, [(dmask T p, b)]⟩
      | _, _ => findT P ops T m ws H0 tm H r
    | none => findT P ops T m ws H0 tm H r
structure XSt where
  tm : Tr Value
  H : Heap
  wr : List (Nat × Nat)
  tk : Nat
  ld : List (Nat × Nat)
def sameR (r s : XSt) : Bool := teq (veq 9) r.tm s.tm && heq r.H s.H
def addR (wr : List (Nat × Nat)) (tk : Nat) (ld : List (Nat × Nat)) : Option XSt → Option XSt
  | some ⟨tm, H, wr', tk', ld'⟩ => some ⟨tm, H, wr ++ wr', Nat.lor tk tk', ld ++ ld'⟩
  | none => none
/-- The other branches end alike; what they write, take and load. -/
def joinR (f : Row → Option XSt) : List Row → XSt → Option XSt
  | [], r => some r
  | y :: ys, r => match f y with
    | some s => match sameR r s with
      | true => joinR f ys ⟨r.tm, r.H, s.wr ++ r.wr, Nat.lor s.tk r.tk, s.ld ++ r.ld⟩
      | false => none
    | none => none
def pairs (i : Nat) : List Nat → List (Nat × Nat)
  | [] => []
  | b :: r => (i, b) :: pairs i r
theorem pairs_snd (i : Nat) : ∀ l : List Nat, (pairs i l).map (·.2) = l
  | [] => rfl
  | b :: r => by simp [pairs, pairs_snd i r]
theorem pairs_fst {i : Nat} : ∀ {l : List Nat} {q : Nat × Nat}, q ∈ pairs i l → q.1 = i
  | [], q, h => by simp [pairs] at h
  | b :: r, q, h => by
    simp only [pairs, List.mem_cons] at h
    rcases h with rfl | h
    · rfl
    · exact pairs_fst h
def branchR (P : Program) (call : CallF) (ops : Array Oper) (base : Nat) (tm : Tr Value) (H : Heap) (next : List (Nat × Nat) → Nat → Tr Value → Heap → Option XSt) (x : Row) : Option XSt :=
  match runOp P call ops base x.i x.o tm H with
  | some (tm', H', wr') => addR (pairs x.i wr') 0 [] (next (pairs x.i wr') x.p tm' H')
  | none => none
def explore (P : Program) (call : CallF) (ops : Array Oper) (T : List Row) (base : Nat) (H0 : Heap) : Nat → Nat → List (Nat × Nat) → Tr Value → Heap → Option XSt
  | 0, m, _, tm, H => match rdy m T with
    | [] => some ⟨tm, H, [], 0, []⟩
    | _ => none
  | n + 1, m, ws, tm, H => match rdy m T with
    | [] => some ⟨tm, H, [], 0, []⟩
    | [x] => branchR P call ops base tm H (fun w p tm' H' => explore P call ops T base H0 n (Nat.lor m p) (w ++ ws) tm' H') x
    | x :: xs => match findT P ops T m ws H0 tm H (x :: xs) with
      | some ⟨_, p, d, v, ld⟩ => addR [] p ld (explore P call ops T base H0 n (Nat.lor m p) ws (putv d v tm) H)
      | none => match branchR P call ops base tm H (fun w p tm' H' => explore P call ops T base H0 n (Nat.lor m p) (w ++ ws) tm' H') x with
        | some r => joinR (branchR P call ops base tm H (fun w p tm' H' => explore P call ops T base H0 n (Nat.lor m p) (w ++ ws) tm' H')) xs r
        | none => none
theorem addR_some {wr : List (Nat × Nat)} {tk : Nat} {ld : List (Nat × Nat)} {r : Option XSt} {s : XSt} (h : addR wr tk ld r = some s) : ∃ w' t' l', r = some ⟨s.tm, s.H, w', t', l'⟩ ∧ s.wr = wr ++ w' ∧ s.tk = Nat.lor tk t' ∧ s.ld = ld ++ l' := by
  unfold addR at h
  split at h
  · rename_i a b c d e
    cases h
    exact ⟨c, d, e, rfl, rfl, rfl, rfl⟩
  · cases h
theorem lor_bit {a b k : Nat} : (Nat.lor a b).testBit k = (a.testBit k || b.testBit k) := Nat.testBit_or a b k
theorem branchR_some {call : CallF} {ops : Array Oper} {base : Nat} {tm : Tr Value} {H : Heap} {next : List (Nat × Nat) → Nat → Tr Value → Heap → Option XSt} {x : Row} {s : XSt} (h : branchR P call ops base tm H next x = some s) :
    ∃ tm' H' wr' w' t', runOp P call ops base x.i x.o tm H = some (tm', H', wr') ∧ next (pairs x.i wr') x.p tm' H' = some ⟨s.tm, s.H, w', t', s.ld⟩ ∧ s.wr = pairs x.i wr' ++ w' ∧ ∀ k, t'.testBit k = true → s.tk.testBit k = true := by
  unfold branchR at h
  split at h
  · rename_i a b c hr
    obtain ⟨w', t', l', k1, k2, k3, k4⟩ := addR_some h
    exact ⟨a, b, c, w', t', hr, by rw [k1, k4]; rfl, k2, fun k hk => by rw [k3, lor_bit, hk]; simp⟩
  · cases h
/-- What lies still while a region runs: blocks no writer of which has come up. -/
def KG (ρ0 : Rn) (H0 : Heap) (W0 : World) (WR : List (Nat × Nat)) (L : Array Bool) (w : World) : Prop := ∀ b o Lo, hget H0 b = some o → isDead o = false → (∀ i, (i, b) ∈ WR → L.getD i false = false) → ρ0 b = some Lo → w.heap[Lo.x]? = W0.heap[Lo.x]?
theorem KG.up {ρ0 : Rn} {H0 : Heap} {W0 w : World} {WR : List (Nat × Nat)} {L : Array Bool} {i : Nat} (h : KG ρ0 H0 W0 WR L w) : KG ρ0 H0 W0 WR (L.setIfInBounds i true) w := fun b o Lo h1 h2 h3 h4 => h b o Lo h1 h2 (fun j hj => by
  have := h3 j hj
  cases hg : L.getD j false with
  | false => rfl
  | true => rw [getD_set_true hg] at this; cases this) h4
theorem KG.down {ρ0 : Rn} {H0 : Heap} {W0 w : World} {WR : List (Nat × Nat)} {L : Array Bool} {i : Nat} (hi : ∀ b, (i, b) ∉ WR) (h : KG ρ0 H0 W0 WR (L.setIfInBounds i true) w) : KG ρ0 H0 W0 WR L w := fun b o Lo h1 h2 h3 h4 => h b o Lo h1 h2 (fun j hj => by
  rw [getD_set_ne false (fun e => by subst e; exact hi b hj)]
  exact h3 j hj) h4
theorem Rel.kg {n0 : Nat} {ρ0 : Rn} {H0 H : Heap} {W0 W : World} {tm : Tr Value} {a : Act} {ws WR : List (Nat × Nat)} {L : Array Bool} (h : Rel P n0 ρ0 H0 W0 tm H (ws.map (·.2)) a W) (hw : ∀ q ∈ ws, q ∈ WR ∧ L.getD q.1 false = true) : KG ρ0 H0 W0 WR L W := by
  obtain ⟨ρ, -, -, h3⟩ := h
  intro b o Lo ho hd hn hL
  refine (h3.fr b o Lo ho hd (fun hb => ?_) hL).2
  obtain ⟨q, hq, rfl⟩ := List.mem_map.1 hb
  obtain ⟨k1, k2⟩ := hw q hq
  rw [hn q.1 k1] at k2
  cases k2
theorem takeV_ok {n0 : Nat} {ρ0 : Rn} {H0 H : Heap} {W0 W : World} {ops : Array Oper} {tm : Tr Value} {a : Act} {ws : List (Nat × Nat)} {o : Oper} {d : Option Tmp} {v : Value} {ob : Option Nat} (hs : takeV P ops ws H0 o tm H = some (d, v, ob)) (h00 : HR P n0 ρ0 H0 W0) (hr : Rel P n0 ρ0 H0 W0 tm H (ws.map (·.2)) a W) :
    ∃ v', d = o.dst ∧ Rel P n0 ρ0 H0 W0 (putv d v tm) H (ws.map (·.2)) (a.put o.dst v') W ∧ ∀ S' : World → Prop, (∀ b, ob = some b → ∀ w, S' w → ∃ q, hget H0 b = some q ∧ isDead q = false ∧ ∀ Lo, ρ0 b = some Lo → w.heap[Lo.x]? = W0.heap[Lo.x]?) ∨ (∀ b, ob = some b → ∀ q, hget H0 b = some q → isDead q = false → ∀ w, S' w → ∀ Lo, ρ0 b = some Lo → w.heap[Lo.x]? = W0.heap[Lo.x]?) → YieldsIf P ops S' o v' a := by
  obtain ⟨ρ, h1, h2, h3⟩ := hr
  unfold takeV at hs
  · have hw := swant_eq (ops := ops) h1 o
    split at hs
    · rename_i hf
      cases hs
      exact ⟨undef, rfl, ⟨ρ, putv_rel h1 _ (.lit rfl), by rw [put_defers]; exact h2, h3⟩, fun S' _ => .inr ⟨by rw [← hw, hf], rfl⟩⟩
    · rename_i hf
      split at hs
      · rename_i u hst
        cases hs
        obtain ⟨v', k1, k2⟩ := sstill_ok hst h1
        exact ⟨v', rfl, ⟨ρ, putv_rel h1 _ k2, by rw [put_defers]; exact h2, h3⟩, fun S' _ => .inl ⟨by rw [← hw, hf], fun w _ => k1 w⟩⟩
      · split at hs
        · rename_i t x hop
          split at hs
          · rename_i b k hx hv
            split at hs
            · rename_i ob hob hnb
              split at hs
              · rename_i u hd hl
                cases hs
                have hvr := sev_rel h1 hx
                rw [hv] at hvr
                obtain ⟨v', L, k1, k2, k3⟩ := sload_at hl hvr h3.hr
                have hnw' : b ∉ ws.map (·.2) := wsHas_no hnb
                obtain ⟨L0, m1, -⟩ := h00.obj b ob hob
                have e0 := h3.ext _ _ m1
                rw [k1] at e0
                cases e0
                have hW := (h3.fr b ob L hob hd hnw' m1).2
                refine ⟨v', rfl, ⟨ρ, putv_rel h1 _ k2, by rw [put_defers]; exact h2, h3⟩, fun S' hS => .inl ⟨by rw [← hw, hf], fun w hw2 => ?_⟩⟩
                have hk : w.heap[L.x]? = W0.heap[L.x]? := by
                  rcases hS with hS | hS
                  · obtain ⟨q, -, -, hq⟩ := hS b rfl w hw2
                    exact hq L m1
                  · exact hS b rfl ob hob hd w hw2 L m1
                have := k3 w (hk.trans hW.symm)
                simp [execOp, hop, this]
              · cases hs
            · cases hs
          · cases hs
        · cases hs
theorem findT_mem {ops : Array Oper} {T : List Row} {m : Nat} {ws : List (Nat × Nat)} {H0 H : Heap} {tm : Tr Value} {t : Took} : ∀ {l : List Row}, findT P ops T m ws H0 tm H l = some t → ∃ a o ob, ⟨t.i, t.p, a, o⟩ ∈ l ∧ takeV P ops ws H0 o tm H = some (t.d, t.v, ob) ∧ freeM ops m t.i o = true ∧ ∀ b, ob = some b → (dmask T t.p, b) ∈ t.ld ∧ Nat.beq (Nat.land m (dmask T t.p)) 0 = true
  | [], h => by simp [findT] at h
  | ⟨i, q, a, o⟩ :: r, h => by
    have rest : findT P ops T m ws H0 tm H r = some t → ∃ a2 o2 ob, ⟨t.i, t.p, a2, o2⟩ ∈ ⟨i, q, a, o⟩ :: r ∧ takeV P ops ws H0 o2 tm H = some (t.d, t.v, ob) ∧ freeM ops m t.i o2 = true ∧ ∀ b, ob = some b → (dmask T t.p, b) ∈ t.ld ∧ Nat.beq (Nat.land m (dmask T t.p)) 0 = true := fun h => by
      obtain ⟨a2, o2, ob, h1, h2⟩ := findT_mem h
      exact ⟨a2, o2, ob, by simp [h1], h2⟩
    simp only [findT] at h
    split at h
    · rename_i d2 v2 ht
      split at h
      · rename_i hf
        cases h
        exact ⟨a, o, none, by simp, ht, hf, fun b hb => by cases hb⟩
      · exact rest h
    · rename_i d2 v2 b2 ht
      split at h
      · rename_i hf hd
        cases h
        exact ⟨a, o, some b2, by simp, ht, hf, fun b hb => by cases hb; exact ⟨by simp, hd⟩⟩
      · exact rest h
    · exact rest h
theorem sameR_eq {r s : XSt} (h : sameR r s = true) : s.tm = r.tm ∧ s.H = r.H := by
  unfold sameR at h
  simp only [Bool.and_eq_true] at h
  exact ⟨(teq_eq (fun x y => veq_eq 9 x y) h.1).symm, (heq_eq h.2).symm⟩
/-- What s tells holds of r too. -/
def XSt.In (r s : XSt) : Prop := r.tm = s.tm ∧ r.H = s.H ∧ (∀ q ∈ r.wr, q ∈ s.wr) ∧ (∀ k, r.tk.testBit k = true → s.tk.testBit k = true) ∧ ∀ q ∈ r.ld, q ∈ s.ld
theorem XSt.In.trans {r s t : XSt} (h : r.In s) (k : s.In t) : r.In t := ⟨h.1.trans k.1, h.2.1.trans k.2.1, fun q hq => k.2.2.1 q (h.2.2.1 q hq), fun j hj => k.2.2.2.1 j (h.2.2.2.1 j hj), fun q hq => k.2.2.2.2 q (h.2.2.2.2 q hq)⟩
theorem XSt.In.refl (r : XSt) : r.In r := ⟨rfl, rfl, fun _ h => h, fun _ h => h, fun _ h => h⟩
theorem joinR_some {f : Row → Option XSt} : ∀ {ys : List Row} {r s : XSt}, joinR f ys r = some s → r.In s ∧ ∀ y ∈ ys, ∃ u, f y = some u ∧ u.In s
  | [], r, s, h => by
    simp only [joinR, Option.some.injEq] at h
    subst h
    exact ⟨.refl _, fun y hy => by simp at hy⟩
  | y :: ys, r, s, h => by
    simp only [joinR] at h
    split at h
    · rename_i u hu
      split at h
      · rename_i hs
        obtain ⟨a1, a2⟩ := joinR_some h
        obtain ⟨e1, e2⟩ := sameR_eq hs
        have b1 : r.In ⟨r.tm, r.H, u.wr ++ r.wr, Nat.lor u.tk r.tk, u.ld ++ r.ld⟩ := ⟨rfl, rfl, fun q hq => List.mem_append_right _ hq, fun k hk => by rw [lor_bit, hk, Bool.or_true], fun q hq => List.mem_append_right _ hq⟩
        have b2 : u.In ⟨r.tm, r.H, u.wr ++ r.wr, Nat.lor u.tk r.tk, u.ld ++ r.ld⟩ := ⟨e1, e2, fun q hq => List.mem_append_left _ hq, fun k hk => by rw [lor_bit, hk, Bool.true_or], fun q hq => List.mem_append_left _ hq⟩
        refine ⟨b1.trans a1, fun z hz => ?_⟩
        rcases List.mem_cons.1 hz with rfl | hz
        · exact ⟨u, hu, b2.trans a1⟩
        · exact a2 z hz
      · cases h
    · cases h
theorem explore_ok (hN : namesOk P = true) {n0 : Nat} {call : CallF} (hc : CallOk P n0 call) {ops : Array Oper} (hns : Region.noSelect ops = true) {base : Nat} {ρ0 : Rn} {H0 : Heap} {W0 : World} (h00 : HR P n0 ρ0 H0 W0) (h0 : n0 ≤ W0.heap.size) {F : XSt} {Q : Exit → Act → World → Prop} (hp : ∀ c a w, ¬ Q (.panic c) a w)
    (ht : ∀ q ∈ F.wr, F.tk.testBit q.1 = false) (hl : ∀ d b, (d, b) ∈ F.ld → ∀ i, (i, b) ∈ F.wr → d.testBit i = true)
    (hQ : ∀ a' W', Rel P n0 ρ0 H0 W0 F.tm F.H (F.wr.map (·.2)) a' W' → Q .normal a' W') : ∀ (n : Nat) {m : Nat} {ws : List (Nat × Nat)} {L : Array Bool} {tm : Tr Value} {H : Heap} {s : XSt} {a : Act} {W : World}, explore P call ops (rows ops.toList 0) base H0 n m ws tm H = some s → s.In F → Msk m L ops.size → (∀ q ∈ ws, q ∈ F.wr ∧ L.getD q.1 false = true) → Rel P n0 ρ0 H0 W0 tm H (ws.map (·.2)) a W →
      Goes P ops Q (KG ρ0 H0 W0 F.wr) n L a W := by
  intro n
  have fine : ∀ {m : Nat} {x : Row}, x ∈ rdy m (rows ops.toList 0) → ops[x.i]? = some x.o ∧ x.p = Nat.pow 2 x.i ∧ x.i < ops.size := fun {m x} hx => by
    obtain ⟨h1, h2, -⟩ := rows_fine (ops := ops) (i := 0) (by simp) x (rdy_sub hx)
    exact ⟨h1, h2, (Array.getElem?_eq_some_iff.1 h1).1⟩
  have fin : ∀ {ws : List (Nat × Nat)} {L : Array Bool} {tm : Tr Value} {H : Heap} {a : Act} {W : World}, (XSt.mk tm H [] 0 []).In F → (∀ q ∈ ws, q ∈ F.wr ∧ L.getD q.1 false = true) → Rel P n0 ρ0 H0 W0 tm H (ws.map (·.2)) a W → Q .normal a W := fun {ws L tm H a W} hin hw hr => by
    obtain ⟨e1, e2, -⟩ := hin
    simp only at e1 e2
    rw [e1, e2] at hr
    refine hQ a W (hr.wr_dom fun b hb => .inl ?_)
    obtain ⟨q, hq, rfl⟩ := List.mem_map.1 hb
    exact List.mem_map.2 ⟨q, (hw q hq).1, rfl⟩
  induction n with
  | zero =>
    intro m ws L tm H s a W hs hin hm hw hr
    simp only [explore] at hs
    split at hs
    · rename_i hrd
      cases hs
      exact ⟨by rw [rdy_all hm, hrd]; rfl, fin hin hw hr⟩
    · cases hs
  | succ n ih =>
    intro m ws L tm H s a W hs hin hm hw hr
    have hrdy := rdy_all hm
    have branch : ∀ {x : Row} {u : XSt}, x ∈ rdy m (rows ops.toList 0) → branchR P call ops base tm H (fun w p tm' H' => explore P call ops (rows ops.toList 0) base H0 n (Nat.lor m p) (w ++ ws) tm' H') x = some u → u.In F →
        wpOp P ops Q x.i (fun a' w' => KG ρ0 H0 W0 F.wr (L.setIfInBounds x.i true) w' ∧ Goes P ops Q (KG ρ0 H0 W0 F.wr) n (L.setIfInBounds x.i true) a' w') a W := fun {x u} hx hb hu => by
      obtain ⟨f1, f2, f3⟩ := fine hx
      obtain ⟨tm2, H2, wr2, w2, t2, k1, k2, k3, k4⟩ := branchR_some hb
      refine runOp_ok hN hc f1 k1 h0 hr fun a' W' hr' => ?_
      have hset : (L.setIfInBounds x.i true).getD x.i false = true := by
        have h1 := hm.1
        rw [Array.getD_eq_getD_getElem?, Array.getElem?_setIfInBounds]
        simp [h1, f3]
      have hw2 : ∀ q ∈ pairs x.i wr2 ++ ws, q ∈ F.wr ∧ (L.setIfInBounds x.i true).getD q.1 false = true := fun q hq => by
        rcases List.mem_append.1 hq with hq | hq
        · refine ⟨hu.2.2.1 q (by rw [k3]; exact List.mem_append_left _ hq), ?_⟩
          rw [pairs_fst hq]
          exact hset
        · exact ⟨(hw q hq).1, getD_set_true (hw q hq).2⟩
      have hr2 : Rel P n0 ρ0 H0 W0 tm2 H2 ((pairs x.i wr2 ++ ws).map (·.2)) a' W' := hr'.wr_dom fun b hb => .inl (by
        rw [List.map_append, pairs_snd]
        rcases List.mem_append.1 hb with hb | hb
        · exact List.mem_append_right _ hb
        · exact List.mem_append_left _ hb)
      refine ⟨hr2.kg hw2, ih k2 ⟨hu.1, hu.2.1, fun q hq => hu.2.2.1 q (by rw [k3]; exact List.mem_append_right _ hq), fun k hk => hu.2.2.2.1 k (k4 k hk), hu.2.2.2.2⟩ (by rw [f2]; exact hm.set f3) hw2 hr2⟩
    simp only [explore] at hs
    split at hs
    · rename_i hrd
      cases hs
      exact Goes.done (by rw [hrdy, hrd]; rfl) (fin hin hw hr) _
    · rename_i x hrd
      refine Goes.all (hrdy.trans (by rw [hrd])) (by simp) fun j hj => ?_
      simp at hj
      subst hj
      exact branch (by rw [hrd]; simp) hs hin
    · rename_i x xs _ hrd
      split at hs
      · rename_i j p d v ld2 hf
        obtain ⟨aa, o, ob, m1, m2, m3, m4⟩ := findT_mem hf
        simp only at m1 m2 m3 m4
        rw [← hrd] at m1
        obtain ⟨f1, f2, f3⟩ := fine m1
        simp only at f1 f2 f3
        obtain ⟨w', t', l', e1, e2, e3, e4⟩ := addR_some hs
        obtain ⟨v', rfl, k3, k2⟩ := takeV_ok m2 h00 hr
        have hjt : F.tk.testBit j = true := hin.2.2.2.1 j (by rw [e3, lor_bit, f2, show (Nat.pow 2 j).testBit j = true by show (2 ^ j).testBit j = true; rw [Nat.testBit_two_pow]; simp]; rfl)
        have hjw : ∀ b, (j, b) ∉ F.wr := fun b hb => by
          have := ht _ hb
          rw [hjt] at this
          cases this
        have hrest := ih e1 ⟨hin.1, hin.2.1, fun q hq => hin.2.2.1 q (by rw [e2]; simp [hq]), fun k hk => hin.2.2.2.1 k (by rw [e3, lor_bit, hk]; simp), fun q hq => hin.2.2.2.2 q (by rw [e4]; simp [hq])⟩ (by rw [f2]; exact hm.set f3) (fun q hq => ⟨(hw q hq).1, getD_set_true (hw q hq).2⟩) k3
        have hready : j ∈ Region.ready .any ops L := by rw [hrdy]; exact List.mem_map.2 ⟨_, m1, rfl⟩
        have hfree := Region.free_spec f1 (freeM_eq hm f1 m3)
        cases ob with
        | none =>
          exact Goes.take (D := fun _ => false) f1 hns (fun c a w hq => (hp c _ w hq).elim) (fun _ _ h => h.up) (fun _ _ h => h.down hjw) n L a W hfree hready (fun k hk => by cases hk) (k2 _ (.inr fun b hb => by cases hb)) (hr.kg hw) hrest
        | some b =>
          obtain ⟨q1, q2⟩ := m4 b rfl
          rw [f2] at q1 q2
          refine Goes.take (D := fun k => (dmask (rows ops.toList 0) (Nat.pow 2 j)).testBit k) f1 hns (fun c a w hq => (hp c _ w hq).elim) (fun _ _ h => h.up) (fun _ _ h => h.down hjw) n L a W hfree hready (dmask_waits (rows_fine (i := 0) (by simp)) hm q2) (k2 _ (.inr fun b2 hb2 q hq hdd w hS Lo hLo => ?_)) (hr.kg hw) hrest
          cases hb2
          obtain ⟨L2, g1, g2⟩ := hS
          refine g2 b q Lo hq hdd (fun i hi => g1 i ?_) hLo
          exact hl _ b (hin.2.2.2.2 _ (by rw [e4]; exact List.mem_append_left _ q1)) i hi
      · split at hs
        · rename_i r hbr
          obtain ⟨e1, e2⟩ := joinR_some hs
          refine Goes.all (hrdy.trans (by rw [hrd])) (by simp) fun j hj => ?_
          obtain ⟨y, hy, rfl⟩ := List.mem_map.1 hj
          rcases List.mem_cons.1 hy with rfl | hy
          · exact branch (by rw [hrd]; simp) hbr (e1.trans hin)
          · obtain ⟨u, g1, g2⟩ := e2 y hy
            exact branch (by rw [hrd]; simp [hy]) g1 (g2.trans hin)
        · cases hs
def okT (tk : Nat) : List (Nat × Nat) → Bool
  | [] => true
  | (i, _) :: r => match Nat.beq (Nat.land tk (Nat.pow 2 i)) 0 with
    | true => okT tk r
    | false => false
theorem okT_ok {tk : Nat} : ∀ {l : List (Nat × Nat)}, okT tk l = true → ∀ q ∈ l, tk.testBit q.1 = false
  | [], _, q, hq => by simp at hq
  | (i, b) :: r, h, q, hq => by
    simp only [okT] at h
    split at h
    · rename_i hb
      rcases List.mem_cons.1 hq with rfl | hq
      · rw [land_pow] at hb
        simpa using hb
      · exact okT_ok h q hq
    · cases h
def okD (d b : Nat) : List (Nat × Nat) → Bool
  | [] => true
  | (i, c) :: r => match Nat.beq b c, Nat.beq (Nat.land d (Nat.pow 2 i)) 0 with
    | true, true => false
    | _, _ => okD d b r
theorem okD_ok {d b : Nat} : ∀ {l : List (Nat × Nat)}, okD d b l = true → ∀ i, (i, b) ∈ l → d.testBit i = true
  | [], _, i, hi => by simp at hi
  | (j, c) :: r, h, i, hi => by
    simp only [okD] at h
    split at h
    · cases h
    · rename_i hne
      rcases List.mem_cons.1 hi with e | hi
      · cases e
        cases hb : d.testBit j with
        | true => rfl
        | false =>
          exact absurd (by rw [land_pow, hb]; rfl) (hne (by simp [Nat.beq_refl]))
      · exact okD_ok h i hi
def okL (wr : List (Nat × Nat)) : List (Nat × Nat) → Bool
  | [] => true
  | (d, b) :: r => match okD d b wr with
    | true => okL wr r
    | false => false
theorem okL_ok {wr : List (Nat × Nat)} : ∀ {l : List (Nat × Nat)}, okL wr l = true → ∀ d b, (d, b) ∈ l → ∀ i, (i, b) ∈ wr → d.testBit i = true
  | [], _, d, b, h => by simp at h
  | (d2, b2) :: r, h, d, b, hm => by
    simp only [okL] at h
    split at h
    · rename_i hd
      rcases List.mem_cons.1 hm with e | hm
      · cases e
        exact okD_ok hd
      · exact okL_ok h d b hm
    · cases h
def drawR (P : Program) (call : CallF) (ops : Array Oper) (base : Nat) (tm : Tr Value) (H : Heap) : Option (Tr Value × Heap × List Nat) :=
  match Region.noSelect ops, explore P call ops (rows ops.toList 0) base H ops.size 0 [] tm H with
  | true, some F => match okT F.tk F.wr, okL F.wr F.ld with
    | true, true => some (F.tm, F.H, F.wr.map (·.2))
    | _, _ => none
  | _, _ => none
theorem drawR_ok (hN : namesOk P = true) {n0 : Nat} {call : CallF} (hc : CallOk P n0 call) (hm : P.follows .mixedOrders = true) {ops : Array Oper} {base id : Nat} {tm tm' : Tr Value} {H H' : Heap} {wr' : List Nat} (hs : drawR P call ops base tm H = some (tm', H', wr'))
    {ρ : Rn} {a : Act} {W : World} (h1 : FR ρ tm a.tmps.toList) (h2 : a.defers = []) (h3 : HR P n0 ρ H W) (h0 : n0 ≤ W.heap.size) {Q : Exit → Act → World → Prop} (hp : ∀ c a w, ¬ Q (.panic c) a w)
    (hQ : ∀ a' W', Rel P n0 ρ H W tm' H' wr' a' W' → Q .normal a' W') : (Code.region id ops true).wp P Q a W := by
  unfold drawR at hs
  split at hs
  · rename_i F hns hex
    split at hs
    · rename_i ht hl
      cases hs
      refine wp_region_any hm (Goes.any (S := KG ρ H W.drew F.wr) ops.size _ a W.drew ?_)
      refine explore_ok hN hc hns h3.drew h0 hp (okT_ok ht) (okL_ok hl) (fun a' W' hr => hQ a' W' ?_) ops.size hex (.refl F) (Msk.zero _) (fun q hq => by simp at hq) ⟨ρ, h1, h2, Okay.refl h3.drew⟩
      obtain ⟨ρ', k1, k2, k3⟩ := hr
      exact ⟨ρ', k1, k2, k3.of_drew⟩
    · cases hs
  · cases hs

end
end Go.Proofs.Ytmcefodfppdajaa.Sim

/- Symbolic run of code and of calls. No program is named here. -/
namespace Go.Proofs.Ytmcefodfppdajaa.Sim
open Go Go.RowKit Go.WideShapes

noncomputable section

variable {P : Program}
inductive Ex where
  | normal
  | exit (id : Nat)
  | ret
def Ex.of : Ex → Exit
  | .normal => .normal
  | .exit id => .exit id
  | .ret => .ret
/-- The name b was given within the call that bears the name nm. -/
def newIn (nm : Nat) : Nat → Nat → Bool
  | 0, _ => false
  | n + 1, b => match Nat.ble b nm with
    | true => false
    | false => match Nat.beq (b / 67108864) nm with
      | true => true
      | false => newIn nm n (b / 67108864)
def nw (nm b : Nat) : Bool := newIn nm 64 b
/-- Written names. -/
def addw : List Nat → List Nat → List Nat
  | [], acc => acc
  | b :: r, acc => match acc.contains b with
    | false => addw r (b :: acc)
    | true => addw r acc
theorem addw_mem : ∀ {l acc : List Nat} {b : Nat}, (b ∈ acc ∨ b ∈ l) → b ∈ addw l acc
  | [], acc, b, h => by simpa [addw] using h
  | c :: r, acc, b, h => by
    simp only [addw]
    split
    · refine addw_mem ?_
      rcases h with h | h
      · exact .inl (by simp [h])
      · rcases List.mem_cons.1 h with rfl | h
        · exact .inl (by simp)
        · exact .inr h
    · rename_i hc
      refine addw_mem ?_
      rcases h with h | h
      · exact .inl h
      · rcases List.mem_cons.1 h with rfl | h
        · exact .inl (by simpa using hc)
        · exact .inr h
theorem Rel.addw {n0 : Nat} {ρ0 : Rn} {H0 H : Heap} {W0 W : World} {tm : Tr Value} {a : Act} {wr wr' : List Nat} (h : Rel P n0 ρ0 H0 W0 tm H (wr ++ wr') a W) : Rel P n0 ρ0 H0 W0 tm H (addw wr' wr) a W :=
  h.wr_dom fun _ hm => .inl (addw_mem (List.mem_append.1 hm))
abbrev ESt := Ex × Nat × Tr Value × Heap × List Nat
def exec (P : Program) (call : CallF) : Nat → Code → Nat → Tr Value → Heap → List Nat → Option ESt
  | 0, _, _, _, _, _ => none
  | n + 1, c, tk, tm, H, wr => match c with
    | .skip => some (.normal, tk, tm, H, wr)
    | .label _ => some (.normal, tk, tm, H, wr)
    | .region _ ops false => match runL P call ops (tk * 1024) ops.toList 0 tm H [] with
      | some (tm', H', wr') => some (.normal, tk + 1, tm', H', addw wr' wr)
      | none => none
    | .region _ ops true => match drawR P call ops (tk * 1024) tm H with
      | some (tm', H', wr') => some (.normal, tk + 1, tm', H', addw wr' wr)
      | none => none
    | .seq x y => match exec P call n x tk tm H wr with
      | some (.normal, tk', tm', H', wr') => exec P call n y tk' tm' H' wr'
      | r => r
    | .cond c x y => match okx c, sev tm c with
      | true, .bool true => exec P call n x tk tm H wr
      | true, .bool false => exec P call n y tk tm H wr
      | _, _ => none
    | .block id x => match exec P call n x tk tm H wr with
      | some (.exit k, tk', tm', H', wr') => match Nat.beq k id with
        | true => some (.normal, tk', tm', H', wr')
        | false => some (.exit k, tk', tm', H', wr')
      | r => r
    | .loop x => match exec P call n x tk tm H wr with
      | some (.normal, tk', tm', H', wr') => exec P call n (.loop x) tk' tm' H' wr'
      | r => r
    | .exit id => some (.exit id, tk, tm, H, wr)
    | .ret => some (.ret, tk, tm, H, wr)
    | _ => none
def Post (P : Program) (n0 : Nat) (ρ0 : Rn) (H0 : Heap) (W0 : World) (s : ESt) : Exit → Act → World → Prop := fun e a W => e = s.1.of ∧ Rel P n0 ρ0 H0 W0 s.2.2.1 s.2.2.2.1 s.2.2.2.2 a W
theorem Rel.ge {n0 : Nat} {ρ0 : Rn} {H0 H : Heap} {W0 W : World} {tm : Tr Value} {a : Act} {wr : List Nat} (h : Rel P n0 ρ0 H0 W0 tm H wr a W) (h0 : n0 ≤ W0.heap.size) : n0 ≤ W.heap.size := by
  obtain ⟨ρ, -, -, h3⟩ := h
  exact Nat.le_trans h0 h3.below.size
theorem Rel.then {n0 : Nat} {ρ0 ρ : Rn} {H0 H H2 : Heap} {W0 W W2 : World} {tm2 : Tr Value} {a2 : Act} {wr wr2 : List Nat} (k : Okay P n0 ρ0 H0 W0 H wr ρ W) (h : Rel P n0 ρ H W tm2 H2 wr2 a2 W2) : Rel P n0 ρ0 H0 W0 tm2 H2 (wr ++ wr2) a2 W2 := by
  obtain ⟨ρ', h1, h2, h3⟩ := h
  exact ⟨ρ', h1, h2, k.trans h3⟩
set_option maxHeartbeats 1000000 in
theorem exec_ok (hN : namesOk P = true) {n0 : Nat} {call : CallF} (hc : CallOk P n0 call) (hm : P.follows .mixedOrders = true) {ρ0 : Rn} {H0 : Heap} {W0 : World} (h0 : n0 ≤ W0.heap.size) :
    ∀ (n : Nat) {c : Code} {tk : Nat} {tm : Tr Value} {H : Heap} {wr : List Nat} {s : ESt}, exec P call n c tk tm H wr = some s → ∀ {a : Act} {W : World}, Rel P n0 ρ0 H0 W0 tm H wr a W → c.wp P (Post P n0 ρ0 H0 W0 s) a W := by
  intro n
  induction n using Nat.strongRecOn with
  | ind n0' ihs =>
    intro c tk tm H wr s hs a W hr
    obtain _ | n := n0'
    · simp [exec] at hs
    have ih := fun {c : Code} {tk : Nat} {tm : Tr Value} {H : Heap} {wr : List Nat} {s : ESt} => ihs n (Nat.lt_succ_self n) (c := c) (tk := tk) (tm := tm) (H := H) (wr := wr) (s := s)
    cases c with
    | skip => simp only [exec, Option.some.injEq] at hs; subst hs; exact wp_skip ⟨rfl, hr⟩
    | label l => simp only [exec, Option.some.injEq] at hs; subst hs; exact wp_label ⟨rfl, hr⟩
    | exit id => simp only [exec, Option.some.injEq] at hs; subst hs; exact wp_exit ⟨rfl, hr⟩
    | ret => simp only [exec, Option.some.injEq] at hs; subst hs; exact wp_ret ⟨rfl, hr⟩
    | region id ops draw =>
      obtain ⟨ρ, k1, k2, k3⟩ := hr
      have hge : n0 ≤ W.heap.size := Nat.le_trans h0 k3.below.size
      cases draw with
      | false =>
        simp only [exec] at hs
        split at hs
        · rename_i tm' H' wr' hrun
          cases hs
          refine wp_region (runL_all hN hc hge (fun a' W' hr' => ?_) hrun ⟨ρ, k1, k2, Okay.refl k3.hr⟩)
          exact ⟨rfl, (Rel.then k3 hr').addw⟩
        · cases hs
      | true =>
        simp only [exec] at hs
        split at hs
        · rename_i tm' H' wr' hrun
          cases hs
          refine drawR_ok hN hc hm hrun k1 k2 k3.hr hge (fun c a w hq => by cases hq.1) fun a' W' hr' => ?_
          exact ⟨rfl, (Rel.then k3 hr').addw⟩
        · cases hs
    | seq x y =>
      simp only [exec] at hs
      cases hx : exec P call n x tk tm H wr with
      | none => rw [hx] at hs; cases hs
      | some r =>
        obtain ⟨ex, tk', tm', H', wr'⟩ := r
        rw [hx] at hs
        refine wp_seq (wp_mono (ih hx hr) ?_)
        rintro e a' W' ⟨he, hr'⟩
        cases ex with
        | normal =>
          simp only at he hs
          subst he
          exact ih hs hr'
        | exit id => simp only [Option.some.injEq] at hs he; subst hs; subst he; exact ⟨rfl, hr'⟩
        | ret => simp only [Option.some.injEq] at hs he; subst hs; subst he; exact ⟨rfl, hr'⟩
    | cond cc x y =>
      simp only [exec] at hs
      have hv : ∀ b, okx cc = true → sev tm cc = .bool b → a.eval cc = .bool b := fun b hk e => by
        obtain ⟨ρ, k1, -, -⟩ := hr
        have := sev_rel k1 hk
        rw [e] at this
        exact this.lit_eq rfl
      split at hs
      · rename_i hk he
        exact wp_cond_true (hv true hk he) (ih hs hr)
      · rename_i hk he
        exact wp_cond_false (hv false hk he) (ih hs hr)
      · cases hs
    | block id x =>
      simp only [exec] at hs
      cases hx : exec P call n x tk tm H wr with
      | none => rw [hx] at hs; cases hs
      | some r =>
        obtain ⟨ex, tk', tm', H', wr'⟩ := r
        rw [hx] at hs
        refine wp_block (wp_mono (ih hx hr) ?_)
        rintro e a' W' ⟨he, hr'⟩
        cases ex with
        | normal => simp only [Option.some.injEq] at hs he; subst hs; subst he; exact ⟨rfl, hr'⟩
        | exit k =>
          simp only at hs he
          subst he
          split at hs
          · rename_i hk
            have hk := (beq_of _ _).1 hk
            cases hs
            subst hk
            simp only [Ex.of, Exit.inBlock, if_true]
            exact ⟨rfl, hr'⟩
          · rename_i hk
            cases hs
            have hne : ¬ k = id := fun e => by subst e; simp [Nat.beq_refl] at hk
            simp only [Ex.of, Exit.inBlock, hne, if_false]
            exact ⟨rfl, hr'⟩
        | ret => simp only [Option.some.injEq] at hs he; subst hs; subst he; exact ⟨rfl, hr'⟩
    | loop x =>
      refine wp_loop_rounds (n + 1) ?_
      have key : ∀ (m : Nat), m ≤ n + 1 → ∀ {tk : Nat} {tm : Tr Value} {H : Heap} {wr : List Nat} {a : Act} {W : World}, exec P call m (.loop x) tk tm H wr = some s → Rel P n0 ρ0 H0 W0 tm H wr a W → Code.rounds P x (Post P n0 ρ0 H0 W0 s) m a W := by
        intro m
        induction m with
        | zero => intro _ tk tm H wr a W hs _; simp [exec] at hs
        | succ m ihm =>
          intro hle tk tm H wr a W hs hr
          simp only [exec] at hs
          cases hx : exec P call m x tk tm H wr with
          | none => rw [hx] at hs; cases hs
          | some r =>
            obtain ⟨ex, tk', tm', H', wr'⟩ := r
            rw [hx] at hs
            rw [rounds_succ]
            refine wp_mono (ihs m (by omega) hx hr) ?_
            rintro e a' W' ⟨he, hr'⟩
            cases ex with
            | normal =>
              simp only at he hs
              subst he
              exact ihm (by omega) hs hr'
            | exit id => simp only [Option.some.injEq] at hs he; subst hs; subst he; exact ⟨rfl, hr'⟩
            | ret => simp only [Option.some.injEq] at hs he; subst hs; subst he; exact ⟨rfl, hr'⟩
      exact key (n + 1) (Nat.le_refl _) hs hr
    | _ => simp [exec] at hs

end
end Go.Proofs.Ytmcefodfppdajaa.Sim

/- Symbolic run of calls. No program is named here. -/
set_option linter.unusedSimpArgs false
namespace Go.Proofs.Ytmcefodfppdajaa.Sim
open Go Go.RowKit Go.WideShapes

noncomputable section
variable {P : Program}
/-- All names in a value are known. -/
def vin (dom : Nat → Bool) : Nat → Value → Bool
  | 0, _ => false
  | d + 1, v => match v with
    | .pointer (some a) => dom a.block
    | .slice (some a) _ _ => dom a.block
    | .map (some b) => dom b
    | .func _ as cs => as.toList.all (vin dom d) && cs.toList.all (vin dom d)
    | .agg cs => cs.toList.all (vin dom d)
    | .tuple cs => cs.toList.all (vin dom d)
    | _ => true
theorem VR.restrict {ρ ρ2 : Rn} {dom : Nat → Bool} (hd : ∀ b L, ρ b = some L → dom b = true → ρ2 b = some L) {v v' : Value} (h : VR ρ v v') : ∀ {d : Nat}, vin dom d v = true → VR ρ2 v v' := by
  induction h with
  | lit h => exact fun _ => .lit h
  | ptr h => intro d hv; cases d <;> simp [vin] at hv; exact .ptr (hd _ _ h hv)
  | slice h hc => intro d hv; cases d <;> simp [vin] at hv; exact .slice (hd _ _ h hv) hc
  | sliceU h hz h1 h2 h3 => intro d hv; cases d <;> simp [vin] at hv; exact .sliceU (hd _ _ h hv) hz h1 h2 h3
  | sliceE => exact fun _ => .sliceE
  | map h => intro d hv; cases d <;> simp [vin] at hv; exact .map (hd _ _ h hv)
  | func h1 _ h3 _ i1 i2 =>
    intro d hv
    cases d with
    | zero => simp [vin] at hv
    | succ d =>
      simp only [vin, Bool.and_eq_true] at hv
      exact .func h1 (fun i v v' a b => i1 i v v' a b (d := d) (all_get hv.1 a)) h3 (fun i v v' a b => i2 i v v' a b (d := d) (all_get hv.2 a))
  | agg h1 _ i1 =>
    intro d hv
    cases d with
    | zero => simp [vin] at hv
    | succ d => exact .agg h1 (fun i v v' a b => i1 i v v' a b (d := d) (all_get hv a))
  | tuple h1 _ i1 =>
    intro d hv
    cases d with
    | zero => simp [vin] at hv
    | succ d => exact .tuple h1 (fun i v v' a b => i1 i v v' a b (d := d) (all_get hv a))
def oin (dom : Nat → Bool) : SObj → Bool
  | .cells xs _ => xs.all (vin dom 9)
  | .map es _ => es.all fun e => vin dom 9 e.2.1
  | .iter m _ _ _ => dom m
  | .dead => true
theorem OR.restrict {ρ ρ2 : Rn} {dom : Nat → Bool} (hd : ∀ b L, ρ b = some L → dom b = true → ρ2 b = some L) {W : World} {L : Loc} {o : SObj} (h : OR P ρ W L o) (hi : oin dom o = true) : OR P ρ2 W L o := by
  cases o with
  | cells xs t =>
    obtain ⟨h0, cs, h1, h2, h3, h4⟩ := h
    refine ⟨h0, cs, h1, h2, h3, fun i v hv => ?_⟩
    obtain ⟨v', a, b⟩ := h4 i v hv
    exact ⟨v', a, b.restrict hd (List.all_eq_true.1 hi v (List.mem_of_getElem? hv))⟩
  | map es k =>
    obtain ⟨fs, h1, h2, h3⟩ := h
    refine ⟨fs, h1, h2, fun i e f a b => ?_⟩
    obtain ⟨x, y, z⟩ := h3 i e f a b
    exact ⟨x, y.restrict hd (List.all_eq_true.1 hi e (List.mem_of_getElem? a)), z⟩
  | iter m since seen c0 =>
    obtain ⟨h0, M, h1, h2⟩ := h
    exact ⟨h0, M, hd _ _ h1 hi, h2⟩
  | dead => trivial

/-- New names in a value, and what is reached from them. -/
def vnames (bd : Nat) : Nat → Value → List Nat → List Nat
  | 0, _, acc => acc
  | d + 1, v, acc => match v with
    | .pointer (some a) => match nw bd a.block with
      | true => a.block :: acc
      | false => acc
    | .slice (some a) _ _ => match nw bd a.block with
      | true => a.block :: acc
      | false => acc
    | .map (some b) => match nw bd b with
      | true => b :: acc
      | false => acc
    | .func _ as cs => as.toList.foldr (vnames bd d) (cs.toList.foldr (vnames bd d) acc)
    | .agg cs => cs.toList.foldr (vnames bd d) acc
    | .tuple cs => cs.toList.foldr (vnames bd d) acc
    | _ => acc
def onames (bd : Nat) (o : SObj) (acc : List Nat) : List Nat :=
  match o with
  | .cells xs _ => xs.foldr (vnames bd 9) acc
  | .map es _ => es.foldr (fun e acc => vnames bd 9 e.2.1 acc) acc
  | .iter m _ _ _ => match nw bd m with
    | true => m :: acc
    | false => acc
  | .dead => acc
def reachN (bd : Nat) (H : Heap) : Nat → List Nat → List Nat → List Nat
  | 0, _, acc => acc
  | _ + 1, [], acc => acc
  | n + 1, b :: w, acc => match acc.contains b with
    | true => reachN bd H n w acc
    | false => match hget H b with
      | some o => reachN bd H n (onames bd o w) (b :: acc)
      | none => reachN bd H n w acc
def wnames (bd : Nat) (H : Heap) : List Nat → List Nat → List Nat
  | [], acc => acc
  | b :: r, acc => match hget H b with
    | some o => wnames bd H r (onames bd o acc)
    | none => wnames bd H r acc
/-- What a call leaves: old blocks, and those of its own that are live. -/
def sweep (bd : Nat) (live : List Nat) : Option Nat → Heap → Heap → Option Heap
  | _, [], [] => some []
  | _, [], _ :: _ => none
  | pr, (b, o) :: r, H0 => match below pr b with
    | false => none
    | true => match isHead b H0 with
      | true => match sweep bd live (some b) r H0.tail with
        | some H' => some ((b, o) :: H')
        | none => none
      | false => match nw bd b with
        | false => none
        | true => match live.contains b with
          | true => match sweep bd live (some b) r H0 with
            | some H' => some ((b, o) :: H')
            | none => none
          | false => sweep bd live (some b) r H0
  where
  below : Option Nat → Nat → Bool
    | none, _ => true
    | some p, b => Nat.ble (Nat.succ b) p
  isHead (b : Nat) : Heap → Bool
    | (c, _) :: _ => Nat.beq b c
    | [] => false
theorem hget_none_of {b : Nat} : ∀ {H : Heap}, (∀ c ∈ H.map (·.1), c ≠ b) → hget H b = none
  | [], _ => rfl
  | (c, o) :: r, h => by
    have hc : Nat.beq c b = false := by
      cases hh : Nat.beq c b with
      | false => rfl
      | true => exact absurd ((beq_of _ _).1 hh) (h c (by simp))
    simp only [hget_nil, hget_eq, hc]
    exact hget_none_of fun d hd => h d (by simp at hd ⊢; exact .inr hd)
theorem sweep_low {bd : Nat} {live : List Nat} : ∀ {H H0 H' : Heap} {p : Nat}, sweep bd live (some p) H H0 = some H' → ∀ c ∈ H.map (·.1), c < p
  | [], _, _, _, _, c, hc => by simp at hc
  | (b, o) :: r, H0, H', p, h, c, hc => by
    have hb : b < p ∧ ∃ H1 H2, sweep bd live (some b) r H1 = some H2 := by
      simp only [sweep] at h
      split at h
      · cases h
      · rename_i hlt
        refine ⟨Nat.le_of_ble_eq_true hlt, ?_⟩
        split at h
        · split at h
          · exact ⟨_, _, by assumption⟩
          · cases h
        · split at h
          · cases h
          · split at h
            · split at h
              · exact ⟨_, _, by assumption⟩
              · cases h
            · exact ⟨_, _, h⟩
    simp only [List.map_cons, List.mem_cons] at hc
    rcases hc with rfl | hc
    · exact hb.1
    · obtain ⟨H1, H2, h2⟩ := hb.2
      exact Nat.lt_trans (sweep_low h2 c hc) hb.1
theorem hget_cons {c b : Nat} {o : SObj} {r : Heap} : hget ((c, o) :: r) b = if c = b then some o else hget r b := by
  simp only [hget_nil, hget_eq]
  cases hh : Nat.beq c b with
  | true => rw [if_pos ((beq_of _ _).1 hh)]
  | false => rw [if_neg fun e => by subst e; simp [Nat.beq_refl] at hh]
theorem hget_off {c b : Nat} {o : SObj} {r : Heap} (h : c ≠ b) : hget ((c, o) :: r) b = hget r b := by rw [hget_cons, if_neg h]
theorem hget_at {b : Nat} {o : SObj} {r : Heap} : hget ((b, o) :: r) b = some o := by rw [hget_cons, if_pos rfl]
/-- What is not swept away stays; what is swept away is new and not live, and not old. -/
theorem sweep_ok {bd : Nat} {live : List Nat} : ∀ {H H0 H' : Heap} {pr : Option Nat}, sweep bd live pr H H0 = some H' → ∀ b, (hget H' b = hget H b) ∨ (hget H' b = none ∧ nw bd b = true ∧ live.contains b = false ∧ hget H0 b = none)
  | [], [], H', pr, h, b => by
    simp only [sweep, Option.some.injEq] at h
    subst h
    exact .inl rfl
  | [], _ :: _, H', pr, h, b => by simp [sweep] at h
  | (c, o) :: r, H0, H', pr, h, b => by
    simp only [sweep] at h
    split at h
    · cases h
    · split at h
      · rename_i hh
        split at h
        · rename_i H2 h2
          cases h
          by_cases hcb : c = b
          · subst hcb
            exact .inl (by rw [hget_at, hget_at])
          · rw [hget_off hcb, hget_off hcb]
            rcases sweep_ok h2 b with k | ⟨k1, k2, k3, k4⟩
            · exact .inl k
            · refine .inr ⟨k1, k2, k3, ?_⟩
              match H0, hh, k4 with
              | (d, o2) :: s, hh, k4 =>
                have : c = d := (beq_of _ _).1 hh
                subst this
                rw [hget_off hcb]
                exact k4
        · cases h
      · rename_i hh
        split at h
        · cases h
        · rename_i hn
          split at h
          · split at h
            · rename_i H2 h2
              cases h
              by_cases hcb : c = b
              · subst hcb
                exact .inl (by rw [hget_at, hget_at])
              · rw [hget_off hcb, hget_off hcb]
                exact sweep_ok h2 b
            · cases h
          · rename_i hl
            by_cases hcb : c = b
            · subst hcb
              have low := sweep_low h
              have e1 : hget r c = none := hget_none_of fun d hd => Nat.ne_of_lt (low d hd)
              rcases sweep_ok h c with k | ⟨k1, -, -, k4⟩
              · rw [e1] at k
                have e0 : hget H0 c = none := by
                  cases hg : hget H0 c with
                  | none => rfl
                  | some w =>
                    have := sweep_old h c (by rw [hg]; rfl)
                    rw [e1] at this
                    cases this
                exact .inr ⟨k, hn, by simpa using hl, e0⟩
              · exact .inr ⟨k1, hn, by simpa using hl, k4⟩
            · rw [hget_off hcb]
              exact sweep_ok h b
  where
  sweep_old {bd : Nat} {live : List Nat} : ∀ {H H0 H' : Heap} {pr : Option Nat}, sweep bd live pr H H0 = some H' → ∀ b, (hget H0 b).isSome = true → (hget H b).isSome = true
    | [], [], H', pr, h, b, hb => by simp [hget_nil, hget_eq] at hb
    | [], _ :: _, H', pr, h, b, hb => by simp [sweep] at h
    | (c, o) :: r, H0, H', pr, h, b, hb => by
      by_cases hcb : c = b
      · subst hcb
        rw [hget_at]
        rfl
      · rw [hget_off hcb]
        simp only [sweep] at h
        split at h
        · cases h
        · split at h
          · rename_i hh
            split at h
            · rename_i H2 h2
              match H0, hh, hb, h2 with
              | (d, o2) :: s, hh, hb, h2 =>
                have : c = d := (beq_of _ _).1 hh
                subst this
                rw [hget_off hcb] at hb
                exact sweep_old h2 b hb
            · cases h
          · split at h
            · cases h
            · split at h
              · split at h
                · rename_i H2 h2
                  exact sweep_old h2 b hb
                · cases h
              · exact sweep_old h b hb
/-- Names that stay. -/
def stays (bd : Nat) (live : List Nat) (b : Nat) : Bool :=
  match nw bd b with
  | true => live.contains b
  | false => true
/-- Blocks that the call has made or written hold only names that stay. -/
def okAll (bd : Nat) (live : List Nat) (H : Heap) : List Nat → Bool
  | [] => true
  | b :: r => match hget H b with
    | some o => match oin (stays bd live) o with
      | true => okAll bd live H r
      | false => false
    | none => okAll bd live H r
theorem okAll_ok {bd : Nat} {live : List Nat} {H : Heap} : ∀ {l : List Nat}, okAll bd live H l = true → ∀ b ∈ l, ∀ o, hget H b = some o → oin (stays bd live) o = true
  | [], _, b, hb, _, _ => by simp at hb
  | c :: r, h, b, hb, o, ho => by
    simp only [okAll] at h
    rcases List.mem_cons.1 hb with rfl | hb
    · rw [ho] at h
      simp only at h
      split at h
      · assumption
      · cases h
    · split at h
      · split at h
        · exact okAll_ok h b hb o ho
        · cases h
      · exact okAll_ok h b hb o ho
/-- New blocks that stay are live. -/
def gc (bd : Nat) (H0 : Heap) (v : Value) (wr : List Nat) (H : Heap) : Option Heap :=
  gc2 bd H0 v wr H (reachN bd H 100000 (vnames bd 9 v (wnames bd H wr [])) [])
  where
  gc2 (bd : Nat) (H0 : Heap) (v : Value) (wr : List Nat) (H : Heap) (live : List Nat) : Option Heap :=
    match vin (stays bd live) 9 v, okAll bd live H live, okAll bd live H wr with
    | true, true, true => sweep bd live none H H0
    | _, _, _ => none
theorem gc_ok {n0 : Nat} {bd : Nat} {H0 H H' : Heap} {v v' : Value} {wr : List Nat} (hs : gc bd H0 v wr H = some H') {ρ0 ρ1 : Rn} {W0 W : World} (h0 : HR P n0 ρ0 H0 W0) (k : Okay P n0 ρ0 H0 W0 H wr ρ1 W) (hv : VR ρ1 v v') :
    ∃ ρ2, VR ρ2 v v' ∧ Okay P n0 ρ0 H0 W0 H' wr ρ2 W := by
  unfold gc at hs
  generalize reachN bd H 100000 (vnames bd 9 v (wnames bd H wr [])) [] = live at hs
  unfold gc.gc2 at hs
  split at hs
  · rename_i c1 c2 c3
    have sw := sweep_ok hs
    have low : ∀ b, (hget H0 b).isSome = true → hget H' b = hget H b := fun b hb => by
      rcases sw b with h | ⟨-, -, -, h⟩
      · exact h
      · rw [h] at hb; cases hb
    have sub : ∀ b o, hget H' b = some o → hget H b = some o := fun b o hb => by
      rcases sw b with h | ⟨h, -⟩
      · rw [← h, hb]
      · rw [h] at hb; cases hb
    have st : ∀ b, stays bd live b = true → hget H' b = hget H b := fun b hb => by
      rcases sw b with h | ⟨-, h2, h3, -⟩
      · exact h
      · unfold stays at hb
        rw [h2] at hb
        simp only at hb
        rw [h3] at hb
        cases hb
    have hρ : ∀ b L, ρ1 b = some L → (hget H' b).isSome = true → (fun q => if (hget H' q).isSome = true then ρ1 q else none) b = some L := fun b L h1 h2 => by simp [h2, h1]
    have hρ' : ∀ b L, ρ1 b = some L → stays bd live b = true → (fun q => if (hget H' q).isSome = true then ρ1 q else none) b = some L := fun b L h1 h2 => hρ b L h1 (by rw [st b h2]; exact k.hr.dom b L h1)
    have hx : Ext ρ0 (fun q => if (hget H' q).isSome = true then ρ1 q else none) := fun b L hL => by
      have h1 := h0.dom b L hL
      have h3 := k.ext _ _ hL
      have h4 := k.hr.dom b L h3
      exact hρ b L h3 (by rw [low b h1]; exact h4)
    refine ⟨fun q => if (hget H' q).isSome = true then ρ1 q else none, hv.restrict hρ' c1, hx, ⟨?_, ?_, ?_⟩, k.below, ?_, ?_⟩
    · intro b L hb
      by_cases hq : (hget H' b).isSome = true
      · exact hq
      · simp [hq] at hb
    · intro b o hb
      have hbs : (hget H' b).isSome = true := by rw [hb]; rfl
      obtain ⟨L, h1, h2, h3, h4⟩ := k.hr.obj b o (sub b o hb)
      refine ⟨L, hρ b L h1 hbs, h2, h3, ?_⟩
      by_cases hw : b ∈ wr
      · exact h4.restrict hρ' (okAll_ok c3 b hw o (sub b o hb))
      · cases hg : hget H0 b with
        | none =>
          have hl : b ∈ live := newLive hs b hbs hg
          exact h4.restrict hρ' (okAll_ok c2 b hl o (sub b o hb))
        | some o0 =>
          have e0 := k.fr1 b o0 hg hw
          rw [sub b o hb] at e0
          cases e0
          obtain ⟨L0, m1, m2, m3, m4⟩ := h0.obj b o hg
          have := k.ext _ _ m1
          rw [h1] at this
          cases this
          cases hd : isDead o with
          | true => cases o <;> first | trivial | cases hd
          | false => exact m4.mono hx (k.fr b o L hg hd hw m1).2
    · intro b b' o o' L L' hb hb' hd hd' hL hL' he
      have e1 : ρ1 b = some L := by
        by_cases hq : (hget H' b).isSome = true
        · simpa [hq] using hL
        · simp [hq] at hL
      have e2 : ρ1 b' = some L' := by
        by_cases hq : (hget H' b').isSome = true
        · simpa [hq] using hL'
        · simp [hq] at hL'
      exact k.hr.inj b b' o o' L L' (sub b o hb) (sub b' o' hb') hd hd' e1 e2 he
    · intro b o L hb hd hn hL
      obtain ⟨x, y⟩ := k.fr b o L hb hd hn hL
      exact ⟨by rw [low b (by rw [hb]; rfl)]; exact x, y⟩
    · intro b o hb hn
      rw [low b (by rw [hb]; rfl)]
      exact k.fr1 b o hb hn
  · cases hs
  where
  newLive {bd : Nat} {live : List Nat} : ∀ {H H0 H' : Heap} {pr : Option Nat}, sweep bd live pr H H0 = some H' → ∀ b, (hget H' b).isSome = true → hget H0 b = none → b ∈ live
    | [], [], H', pr, h, b, hb, _ => by
      simp only [sweep, Option.some.injEq] at h
      subst h
      simp [hget_nil, hget_eq] at hb
    | [], _ :: _, H', pr, h, b, hb, _ => by simp [sweep] at h
    | (c, o) :: r, H0, H', pr, h, b, hb, h0 => by
      simp only [sweep] at h
      split at h
      · cases h
      · split at h
        · rename_i hh
          split at h
          · rename_i H2 h2
            cases h
            match H0, hh, h0, h2 with
            | (d, o2) :: s, hh, h0, h2 =>
              have : c = d := (beq_of _ _).1 hh
              subst this
              by_cases hcb : c = b
              · subst hcb
                rw [hget_at] at h0
                cases h0
              · rw [hget_off hcb] at h0 hb
                exact newLive h2 b hb h0
          · cases h
        · split at h
          · cases h
          · split at h
            · rename_i hl
              split at h
              · rename_i H2 h2
                cases h
                by_cases hcb : c = b
                · subst hcb
                  simpa using hl
                · rw [hget_off hcb] at hb
                  exact newLive h2 b hb h0
              · cases h
            · exact newLive h b hb h0

end
end Go.Proofs.Ytmcefodfppdajaa.Sim

/- Symbolic run of calls, whole: what it says of a call with known arguments. No program is named here. -/
set_option linter.unusedSimpArgs false
namespace Go.Proofs.Ytmcefodfppdajaa.Sim
open Go Go.RowKit Go.WideShapes

noncomputable section

variable {P : Program}
def rf (tmps : Array Value) (r : ResultVar) : Sem Value :=
  match r with
  | .tmp t => pure (tmps.getD t undef)
  | .cell a t => do loadVar t (← asAddr (tmps.getD a undef))
theorem results_rf (fn : Func) (tmps : Array Value) : results fn tmps = (do let vs ← fn.results.mapM (rf tmps); pure (if h : vs.size = 1 then vs[0] else .tuple vs)) := by
  unfold results
  congr 1
def sres (P : Program) (tm : Tr Value) (H : Heap) : List ResultVar → Option (List Value)
  | [] => some []
  | .tmp t :: r => match sres P tm H r with
    | some l => some (tm.get undef t :: l)
    | none => none
  | .cell a t :: r => match sload P t (tm.get undef a) H, sres P tm H r with
    | some v, some l => some (v :: l)
    | _, _ => none
theorem getD_rel {ρ : Rn} {tm : Tr Value} {a : Act} (h : FR ρ tm a.tmps.toList) (t : Nat) : VR ρ (tm.get undef t) (a.tmps.getD t undef) := sev_rel h (x := .tmp t) rfl
theorem sres_ok {n0 : Nat} {ρ : Rn} {H : Heap} {W : World} {tm : Tr Value} {a : Act} (ht : FR ρ tm a.tmps.toList) (h : HR P n0 ρ H W) : ∀ {l : List ResultVar} {vs : List Value}, sres P tm H l = some vs → ∃ us, (l.mapM (rf a.tmps)).run P W = .ok us W ∧ LR ρ vs us
  | [], vs, hs => by
    simp only [sres, Option.some.injEq] at hs
    subst hs
    exact ⟨[], rfl, LR.nil ρ⟩
  | .tmp t :: r, vs, hs => by
    simp only [sres] at hs
    split at hs
    · rename_i l hl
      cases hs
      obtain ⟨us, k1, k2⟩ := sres_ok ht h hl
      exact ⟨_, by simp [List.mapM_cons, rf, k1], LR.cons (getD_rel ht t) k2⟩
    · cases hs
  | .cell q t :: r, vs, hs => by
    simp only [sres] at hs
    split at hs
    · rename_i v l hv hl
      cases hs
      obtain ⟨us, k1, k2⟩ := sres_ok ht h hl
      have hq := getD_rel ht q
      obtain ⟨u', k3, k4⟩ := sload_ok hv hq h
      refine ⟨_, ?_, LR.cons k4 k2⟩
      have hp : ∃ p, a.tmps.getD q undef = .pointer (some p) := by
        unfold sload at hv
        simp only [inf_eq, und_eq, fun1_eq] at hv
        split at hv
        · rename_i b o e
          rw [e] at hq
          obtain ⟨L, -, e2⟩ := hq.ptr_inv
          exact ⟨_, e2⟩
        · cases hv
      obtain ⟨p, hp⟩ := hp
      rw [hp] at k3
      simp [Instr.loadAt, Instr.sureAddr] at k3
      have e : (rf a.tmps (.cell q t)).run P W = .ok u' W := by simp only [rf, hp]; simp [asAddr, k3]
      simp [List.mapM_cons, e, k1]
    · cases hs
def oneOf (l : List Value) : Value :=
  match l with
  | [v] => v
  | _ => .tuple l.toArray
theorem oneOf_rel {ρ : Rn} {vs us : List Value} (h : LR ρ vs us) : VR ρ (oneOf vs) (if hh : us.toArray.size = 1 then us.toArray[0] else .tuple us.toArray) := by
  have hl := h.1
  match vs, us, h, hl with
  | [v], [u], h, _ => exact h.2 0 v u rfl rfl
  | [], [], h, _ => exact VR.tuple_ h
  | v :: v2 :: r, u :: u2 :: s, h, _ =>
    simp only [oneOf]
    rw [dif_neg (by simp)]
    exact VR.tuple_ h
  | [], _ :: _, _, hl => simp at hl
  | [_], [], _, hl => simp at hl
  | [_], _ :: _ :: _, _, hl => simp at hl
  | _ :: _ :: _, [], _, hl => simp at hl
  | _ :: _ :: _, [_], _, hl => simp at hl
def Ex.fin : Ex → Bool
  | .normal => true
  | .ret => true
  | .exit _ => false
def oldW (H : Heap) : List Nat → List Nat
  | [] => []
  | b :: r => match hget H b with
    | some _ => b :: oldW H r
    | none => oldW H r
theorem oldW_mem {H : Heap} : ∀ {l : List Nat} {b : Nat}, b ∈ l → b ∈ oldW H l ∨ hget H b = none
  | [], b, h => by simp at h
  | c :: r, b, h => by
    simp only [oldW]
    rcases List.mem_cons.1 h with rfl | h
    · split
      · exact .inl (by simp)
      · rename_i e
        exact .inr e
    · rcases oldW_mem (H := H) h with k | k
      · split
        · exact .inl (by simp [k])
        · exact .inl k
      · exact .inr k
def callD (P : Program) (fuel : Nat) : Nat → CallF
  | 0 => fun _ _ _ _ => none
  | d + 1 => fun f bs H nm => match fun1 P f with
    | some fn => match fn.body with
      | some c => match Nat.ble bs.length fn.ntmps, exec P (callD P fuel d) fuel c (nm * 65536) (frame0 bs fn.ntmps) H [] with
        | true, some (ex, _, tm', H', wr') => match ex.fin, sres P tm' H' fn.results.toList with
          | true, some l => match gc nm H (oneOf l) (oldW H wr') H' with
            | some H2 => some (oneOf l, H2, oldW H wr')
            | none => none
          | _, _ => none
        | _, _ => none
      | none => none
    | none => none
theorem callD_ok (hN : namesOk P = true) (hm : P.follows .mixedOrders = true) (n0 fuel : Nat) : ∀ d : Nat, CallOk P n0 (callD P fuel d)
  | 0 => fun f bs H nm v H' wr hs => by simp [callD] at hs
  | d + 1 => fun f bs H nm v H' wr hs ρ W args hl hH h0 => by
    simp only [callD, fun1_eq] at hs
    split at hs
    · rename_i fn hf
      split at hs
      · rename_i c hb
        split at hs
        · rename_i ex tk tm' H2 wr' hble hex
          split at hs
          · rename_i l hfin hres
            split at hs
            · rename_i H3 hgc
              cases hs
              have hlen : fn.ntmps - args.size = fn.ntmps - bs.length := by have := hl.1; simp at this; rw [this]
              have hrel : Rel P n0 ρ H W (frame0 bs fn.ntmps) H [] { tmps := args ++ Array.replicate (fn.ntmps - args.size) undef, defers := [] } W := by
                refine ⟨ρ, ?_, rfl, Okay.refl hH⟩
                have := hl.append (LR.repl (ρ := ρ) (fn.ntmps - bs.length) (v := undef) (v' := undef) (.lit rfl))
                obtain ⟨f1, f2⟩ := frame0_eq (Nat.le_of_ble_eq_true hble)
                refine ⟨f1, ?_⟩
                rw [f2, hlen]
                simpa using this
              refine calls_of_wp hf hb (wp_mono (exec_ok hN (callD_ok hN hm n0 fuel d) hm h0 fuel hex hrel) ?_)
              rintro e a' W' ⟨rfl, ρ1, k1, k2, k3⟩
              obtain ⟨us, k4, k5⟩ := sres_ok k1 k3.hr hres
              have hrun : (results fn a'.tmps).run P W' = .ok (if hh : us.toArray.size = 1 then us.toArray[0] else .tuple us.toArray) W' := by
                rw [results_rf]
                have hmm : (fn.results.mapM (rf a'.tmps)).run P W' = .ok us.toArray W' := by
                  rw [← Array.toArray_toList (xs := fn.results), List.mapM_toArray, map_eq_pure_bind, Sem.run_bind, k4]
                  rfl
                rw [Sem.run_bind, hmm]
                rfl
              obtain ⟨ρ2, m1, m2⟩ := gc_ok hgc hH (k3.wr_dom fun b hb => oldW_mem hb) (oneOf_rel k5)
              have hfinal : ∃ v, (results fn a'.tmps).run P W' = .ok v W' ∧ ∃ ρ' v', Ending.returned v = .returned v' ∧ VR ρ' (oneOf l) v' ∧ Okay P n0 ρ H W H' (oldW H wr') ρ' W' := ⟨_, hrun, ρ2, _, rfl, m1, m2⟩
              cases ex with
              | normal => exact ⟨k2, hfinal⟩
              | ret => exact ⟨k2, hfinal⟩
              | exit k => simp [Ex.fin] at hfin
            · cases hs
          · cases hs
        · cases hs
      · cases hs
    · cases hs
/-- A call whose arguments are plain and known, in whatever memory. -/
theorem run_top (hN : namesOk P = true) (hm : P.follows .mixedOrders = true) {fuel d : Nat} {f : FuncId} {bs : List Value} {v : Value} {H' : Heap} {wr : List Nat} (hb : bs.all isLit = true) (h : callD P fuel d f bs [] 1 = some (v, H', wr)) (hl : isLit v = true) (W : World) :
    Calls P f bs.toArray W fun e W' => Below W.heap.size W W' ∧ e = .returned v := by
  have hH : HR P W.heap.size (fun _ => none) [] W := ⟨(fun b L hb => by cases hb), (fun b o hb => by simp [hget_nil, hget_eq] at hb), (fun b b' o o' L L' hb => by simp [hget_nil, hget_eq] at hb)⟩
  refine (callD_ok hN hm W.heap.size fuel d f bs [] 1 v H' wr h (fun _ => none) W bs.toArray (by simpa using LR.lits hb) hH (Nat.le_refl _)).mono ?_
  rintro e W' ⟨ρ', v', rfl, k1, k2⟩
  exact ⟨k2.below, by rw [k1.lit_eq hl]⟩
def isTrue (r : Option (Value × Heap × List Nat)) : Bool :=
  match r with
  | some (.bool true, _, _) => true
  | _ => false
theorem run_true (hN : namesOk P = true) (hm : P.follows .mixedOrders = true) {fuel d : Nat} {f : FuncId} (h : isTrue (callD P fuel d f [] [] 1) = true) (W : World) : Calls P f #[] W fun e W' => Below W.heap.size W W' ∧ e = .returned (.bool true) := by
  unfold isTrue at h
  split at h
  · rename_i H' wr hr
    exact run_top hN hm rfl hr rfl W
  · cases h

end
end Go.Proofs.Ytmcefodfppdajaa.Sim
