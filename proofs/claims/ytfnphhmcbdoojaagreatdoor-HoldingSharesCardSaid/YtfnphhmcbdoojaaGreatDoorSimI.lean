/- Symbolic run of single operations: copy, lengths, comparisons with nil; all that look at no memory. No program is named here. -/
import Derived.Test.YtfnphhmcbdoojaaGreatDoorSimH
set_option linter.unusedSimpArgs false
namespace Go.Proofs.YtfnphhmcbdoojaaGreatDoor.Sim
open Go Go.RowKit Go.WideShapes

noncomputable section
variable {P : Program}
def scopy (P : Program) (t : TypeId) (dst src : Value) (H : Heap) : Option (Value × Heap × List Nat) :=
  match und P t with
  | some (.slice e) => match inf P e with
    | some i => match dst, src with
      | .slice none 0 _, .slice none 0 _ => some (.int .i64 0, H, [])
      | .slice none 0 _, .slice (some ⟨_, _, none⟩) _ _ => some (.int .i64 0, H, [])
      | .slice (some ⟨_, _, none⟩) _ _, .slice none 0 _ => some (.int .i64 0, H, [])
      | .slice (some ⟨b, o, none⟩) n _, .slice (some ⟨b2, o2, none⟩) n2 _ => match hget H b, hget H b2 with
        | some (.cells xs ty), some (.cells ys _) => match Nat.ble (o2 + Nat.min n2 n * i.size) ys.length, Nat.ble (o + ((ys.drop o2).take (Nat.min n2 n * i.size)).length) xs.length, ((ys.drop o2).take (Nat.min n2 n * i.size)).all (·.oneCell') with
          | true, true, true => some (.int .i64 (Nat.min n2 n : Nat), hset H b (.cells (ovl xs o ((ys.drop o2).take (Nat.min n2 n * i.size))) ty), [b])
          | _, _, _ => none
        | _, _ => none
      | _, _ => none
    | none => none
  | _ => none
theorem scopy_ok {n0 : Nat} {ρ : Rn} {H H' : Heap} {W : World} {t tx ty : TypeId} {d d' s s' u : Value} {wr : List Nat} (hs : scopy P t d s H = some (u, H', wr)) (hd : VR ρ d d') (hx : VR ρ s s') (h : HR P n0 ρ H W) :
    ∃ W', (Builtin.copy_ #[t, tx] ty #[d', s']).run P W = .ok u W' ∧ isLit u = true ∧ Okay P n0 ρ H W H' wr ρ W' := by
  unfold scopy at hs
  simp only [inf_eq, und_eq, fun1_eq] at hs
  split at hs
  · rename_i e ht
    split at hs
    · rename_i i hi
      split at hs
      · have := hd.lit_eq rfl
        subst this
        have := hx.lit_eq rfl
        subst this
        cases hs
        exact ⟨W, by simp [Builtin.copy_, run_underlying ht, size_get hi, Builtin.lenOf, Builtin.firstCells, goInt], rfl, Okay.refl h⟩
      · have := hd.lit_eq rfl
        subst this
        obtain ⟨L, hL, c', rfl, -⟩ := hx.slice_inv
        cases hs
        exact ⟨W, by simp [Builtin.copy_, run_underlying ht, size_get hi, Builtin.lenOf, Builtin.firstCells, goInt, loadCells, loadCellsFrom], rfl, Okay.refl h⟩
      · have := hx.lit_eq rfl
        subst this
        obtain ⟨L, hL, c', rfl, -⟩ := hd.slice_inv
        cases hs
        exact ⟨W, by simp [Builtin.copy_, run_underlying ht, size_get hi, Builtin.lenOf, Builtin.firstCells, goInt, storeCells], rfl, Okay.refl h⟩
      · rename_i b o n c b2 o2 n2 c2
        obtain ⟨L, hL, c', rfl, -⟩ := hd.slice_inv
        obtain ⟨L2, hL2, c2', rfl, -⟩ := hx.slice_inv
        split at hs
        · rename_i xs tb ys tb2 hb hb2
          split at hs
          · rename_i f1 f2 f3
            cases hs
            obtain ⟨zs, k1, k2, k3⟩ := h.cells hb2 hL2 o2 (Nat.min n2 n * i.size) (Nat.le_of_ble_eq_true f1)
            obtain ⟨cs, g1, g2, g3⟩ := h.store hb hL (Nat.le_of_ble_eq_true f2) k1
            have hl := run_loadCells_list (P := P) W ⟨L2.x, L2.s + o2, none⟩ zs k3
            rw [k2] at hl
            have hst := run_storeCells_at P L.x (L.s + o) tb zs 0 cs W g1 (by simpa using g2) (k1.ones f3)
            simp only [Nat.add_zero] at hst
            refine ⟨_, ?_, rfl, g3⟩
            simp [Builtin.copy_, run_underlying ht, size_get hi, Builtin.lenOf, Builtin.firstCells, goInt, hl, hst]
          · cases hs
        · cases hs
      · cases hs
    · cases hs
  · cases hs
def zcells (z : Value) (n : Nat) : List Value := (Builtin.zeroCells z.cells n).toList
def sclear (P : Program) (t : TypeId) (v : Value) (H : Heap) : Option (Value × Heap × List Nat) :=
  match und P t, v with
  | some (.slice e), .slice (some ⟨b, o, none⟩) (n + 1) _ => match inf P e with
    | some i => match i.zero, hget H b with
      | some z, some (.cells xs ty) => match Nat.ble (o + (zcells z (n + 1)).length) xs.length, (zcells z (n + 1)).all isLit, (zcells z (n + 1)).all (·.oneCell') with
        | true, true, true => some (.tuple #[], hset H b (.cells (ovl xs o (zcells z (n + 1))) ty), [b])
        | _, _, _ => none
      | _, _ => none
    | none => none
  | _, _ => none
theorem sclear_ok {n0 : Nat} {ρ : Rn} {H H' : Heap} {W : World} {t ty : TypeId} {d d' u : Value} {wr : List Nat} (hs : sclear P t d H = some (u, H', wr)) (hd : VR ρ d d') (h : HR P n0 ρ H W) :
    ∃ W', (Builtin.clear_ #[t] ty #[d']).run P W = .ok u W' ∧ isLit u = true ∧ Okay P n0 ρ H W H' wr ρ W' := by
  unfold sclear at hs
  simp only [inf_eq, und_eq, fun1_eq] at hs
  split at hs
  · rename_i e b o n c ht
    obtain ⟨L, hL, c', rfl, -⟩ := hd.slice_inv
    split at hs
    · rename_i i hi
      split at hs
      · rename_i z xs tb hz hb
        split at hs
        · rename_i f1 f2 f3
          cases hs
          have k1 : LR ρ (zcells z (n + 1)) (zcells z (n + 1)) := LR.lits f2
          obtain ⟨cs, g1, g2, g3⟩ := h.store hb hL (Nat.le_of_ble_eq_true f1) k1
          have hst := run_storeCells_at P L.x (L.s + o) tb (zcells z (n + 1)) 0 cs W g1 (by simpa using g2) (k1.ones f3)
          simp only [Nat.add_zero] at hst
          refine ⟨_, ?_, rfl, g3⟩
          unfold zcells at hst ⊢
          simp [Builtin.clear_, run_underlying ht, zero_get hi hz, hst]
        · cases hs
      · cases hs
    · cases hs
  · cases hs
def slen (P : Program) (t : TypeId) (v : Value) (H : Heap) : Option Value :=
  match und P t, v with
  | some (.slice _), .slice (some ⟨_, _, none⟩) n _ => some (.int .i64 n)
  | some (.map _ _), .map (some b) => match hget H b with
    | some (.map es _) => some (.int .i64 es.length)
    | _ => none
  | _, _ => none
theorem getObj_run {W : World} {r : Nat} {es : Array MapEntry} {k : Nat} (h : W.heap[r]? = some (.map es k)) : (getObj r).run P W = .ok (.map es k) W := by
  simp [getObj, Sem.run, h]
theorem slen_ok {n0 : Nat} {ρ : Rn} {H : Heap} {W : World} {t ty : TypeId} {v v' u : Value} (hs : slen P t v H = some u) (hv : VR ρ v v') (h : HR P n0 ρ H W) : (Builtin.len_ #[t] ty #[v']).run P W = .ok u W ∧ isLit u = true := by
  unfold slen at hs
  simp only [inf_eq, und_eq, fun1_eq] at hs
  split at hs
  · rename_i e b o n c ht
    obtain ⟨L, hL, c', rfl, -⟩ := hv.slice_inv
    cases hs
    exact ⟨by simp [Builtin.len_, run_underlying ht, goInt], rfl⟩
  · rename_i a1 a2 b ht
    obtain ⟨L, hL, rfl⟩ := hv.map_inv
    split at hs
    · rename_i es k hb
      cases hs
      obtain ⟨L2, h1, -, -, fs, g1, g2, -⟩ := h.obj b _ hb
      rw [hL] at h1
      cases h1
      have : fs.size = es.length := by simpa using g2.symm
      exact ⟨by simp [Builtin.len_, run_underlying ht, goInt, getObj_run g1, this], rfl⟩
    · cases hs
  · cases hs
def scap (P : Program) (t : TypeId) (v : Value) : Option Value :=
  match und P t, v with
  | some (.slice _), .slice (some ⟨_, _, none⟩) _ c => match Nat.beq c UNK with
    | false => some (.int .i64 c)
    | true => none
  | _, _ => none
theorem scap_ok {ρ : Rn} {W : World} {t ty : TypeId} {v v' u : Value} (hs : scap P t v = some u) (hv : VR ρ v v') : (Builtin.cap_ #[t] ty #[v']).run P W = .ok u W ∧ isLit u = true := by
  unfold scap at hs
  simp only [inf_eq, und_eq, fun1_eq] at hs
  split at hs
  · rename_i e b o n c ht
    obtain ⟨L, hL, c', rfl, hc⟩ := hv.slice_inv
    split at hs
    · rename_i hcu
      have hcu : c ≠ UNK := fun e => by rw [e] at hcu; simp [Nat.beq_refl] at hcu
      obtain ⟨-, rfl⟩ := hc.resolve_right (fun hh => hcu hh.1)
      cases hs
      exact ⟨by simp [Builtin.cap_, run_underlying ht, goInt], rfl⟩
    · cases hs
  · cases hs
/-- A value that is not nil held against nil. -/
def isNilOf (P : Program) (t : TypeId) (x y : Value) : Bool :=
  match und P t, x, y with
  | some (.pointer _), .pointer (some ⟨_, _, none⟩), .pointer none => true
  | some (.slice _), .slice (some ⟨_, _, none⟩) _ _, .slice none _ _ => true
  | some (.map _ _), .map (some _), .map none => true
  | some (.func _ _ _), .func (.func _) _ _, .nilFunc => true
  | _, _, _ => false
def snil (P : Program) (op : BinOp) (t : TypeId) (x y : Value) : Option Value :=
  match isNilOf P t x y, op with
  | true, .eql => some (.bool false)
  | true, .neq => some (.bool true)
  | _, _ => none
theorem eq_ptr {W : World} {t e : TypeId} (d : Nat) (ht : P.underlying t = some (.pointer e)) (a : Addr) : (Op.equalIn (d + 1) t (.pointer (some a)) (.pointer none)).run P W = .ok false W := by
  rw [Op.equalIn]
  simp [run_underlying ht]
theorem eq_slice {W : World} {t e : TypeId} (d : Nat) (ht : P.underlying t = some (.slice e)) (a : Addr) (n c n2 c2 : Nat) : (Op.equalIn (d + 1) t (.slice (some a) n c) (.slice none n2 c2)).run P W = .ok false W := by
  rw [Op.equalIn]
  simp [run_underlying ht]
theorem eq_map {W : World} {t k e : TypeId} (d : Nat) (ht : P.underlying t = some (.map k e)) (a : Nat) : (Op.equalIn (d + 1) t (.map (some a)) (.map none)).run P W = .ok false W := by
  rw [Op.equalIn]
  simp [run_underlying ht]
theorem eq_func {W : World} {t : TypeId} {ps rs : Array TypeId} {v : Bool} (d : Nat) (ht : P.underlying t = some (.func ps rs v)) (f : Fn) (as cs : Array Value) : (Op.equalIn (d + 1) t (.func f as cs) .nilFunc).run P W = .ok false W := by
  rw [Op.equalIn]
  simp [run_underlying ht]
theorem snil_ok {ρ : Rn} {W : World} {op : BinOp} {t : TypeId} {ox oy : Operand} {x x' y y' u : Value} (hs : snil P op t x y = some u) (hx : VR ρ x x') (hy : VR ρ y y') :
    (do eqGuard op t ox oy x' y'; binOp op t x' y' : Sem Value).run P W = .ok u W ∧ isLit u = true := by
  unfold snil at hs
  have key : isNilOf P t x y = true → (∀ f, f = true → True) → (Op.equal t x' y').run P W = .ok false W ∧ (∀ o2, (o2 = BinOp.eql ∨ o2 = BinOp.neq) → (eqGuard o2 t ox oy x' y').run P W = .ok () W ∧ (binOp .eql t x' y').run P W = .ok (.bool false) W ∧ (binOp .neq t x' y').run P W = .ok (.bool true) W) := by
    intro hn _
    unfold isNilOf at hn
    simp only [inf_eq, und_eq, fun1_eq] at hn
    split at hn
    · rename_i e b o ht
      obtain ⟨L, -, rfl⟩ := hx.ptr_inv
      have := hy.lit_eq rfl
      subst this
      have he : (Op.equal t (.pointer (some ⟨L.x, L.s + o, none⟩)) (.pointer none)).run P W = .ok false W := eq_ptr 9999 ht _
      exact ⟨he, fun o2 ho => ⟨by rcases ho with rfl | rfl <;> simp [eqGuard], by simp [binOp, he], by simp [binOp, he]⟩⟩
    · rename_i e b o n c c2 c3 ht
      obtain ⟨L, -, c', rfl, -⟩ := hx.slice_inv
      have := hy.lit_eq rfl
      subst this
      have he : (Op.equal t (.slice (some ⟨L.x, L.s + o, none⟩) n c') (.slice none c2 c3)).run P W = .ok false W := eq_slice 9999 ht _ _ _ _ _
      exact ⟨he, fun o2 ho => ⟨by rcases ho with rfl | rfl <;> simp [eqGuard], by simp [binOp, he], by simp [binOp, he]⟩⟩
    · rename_i a1 a2 b ht
      obtain ⟨L, -, rfl⟩ := hx.map_inv
      have := hy.lit_eq rfl
      subst this
      have he : (Op.equal t (.map (some L.x)) (.map none)).run P W = .ok false W := eq_map 9999 ht _
      exact ⟨he, fun o2 ho => ⟨by rcases ho with rfl | rfl <;> simp [eqGuard], by simp [binOp, he], by simp [binOp, he]⟩⟩
    · rename_i a1 a2 a3 f c1 c2 ht
      have := hy.lit_eq rfl
      subst this
      have hf : ∃ d1 d2, x' = .func (.func f) d1 d2 := by
        cases hx with
        | lit _ => exact ⟨_, _, rfl⟩
        | func _ _ _ _ => exact ⟨_, _, rfl⟩
      obtain ⟨d1, d2, rfl⟩ := hf
      have he : (Op.equal t (.func (.func f) d1 d2) .nilFunc).run P W = .ok false W := eq_func 9999 ht _ _ _
      exact ⟨he, fun o2 ho => ⟨by rcases ho with rfl | rfl <;> simp [eqGuard], by simp [binOp, he], by simp [binOp, he]⟩⟩
    · cases hn
  split at hs
  · rename_i hn
    cases hs
    obtain ⟨-, k⟩ := key hn (fun _ _ => trivial)
    obtain ⟨k1, k2, -⟩ := k .eql (.inl rfl)
    exact ⟨by simp [k1, k2], rfl⟩
  · rename_i hn
    cases hs
    obtain ⟨-, k⟩ := key hn (fun _ _ => trivial)
    obtain ⟨k1, -, k3⟩ := k .neq (.inr rfl)
    exact ⟨by simp [k1, k3], rfl⟩
  · cases hs

end
end Go.Proofs.YtfnphhmcbdoojaaGreatDoor.Sim
