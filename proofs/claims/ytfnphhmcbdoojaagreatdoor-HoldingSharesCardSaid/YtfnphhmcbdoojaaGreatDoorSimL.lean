/- Symbolic run: operations in a region; equal values. No program is named here. -/
import Derived.Test.YtfnphhmcbdoojaaGreatDoorSimK
set_option linter.unusedSimpArgs false
namespace Go.Proofs.YtfnphhmcbdoojaaGreatDoor.Sim
open Go Go.RowKit Go.WideShapes

noncomputable section

variable {P : Program}
theorem sop_val {n0 : Nat} {ρ : Rn} {H H' : Heap} {W : World} {nm : Nat} {o : Oper} {tm : Tr Value} {a : Act} {v : Value} {wr : List Nat} (hs : sop P nm o tm H = some (.val v H' wr)) (ht : FR ρ tm a.tmps.toList) (h : HR P n0 ρ H W) (h0 : n0 ≤ W.heap.size) :
    Did P n0 ρ H W a o v H' wr := by
  unfold sop at hs
  split at hs
  · rename_i u hq
    cases hs
    obtain ⟨v', k1, k2⟩ := sstill_ok hq ht
    exact Did.val h (k1 W) k2
  · exact sother_ok hs ht h h0
theorem sop_call (hN : namesOk P = true) {ρ : Rn} {H : Heap} {nm : Nat} {o : Oper} {tm : Tr Value} {a : Act} {f : FuncId} {bs : List Value} (hs : sop P nm o tm H = some (.call f bs)) (ht : FR ρ tm a.tmps.toList) :
    ∃ args : Array Value, (∀ W : World, (execOp a.eval o).run P W = .ok (.enter f args) W) ∧ LR ρ bs args.toList := by
  unfold sop at hs
  split at hs
  · cases hs
  · unfold sother at hs
    split at hs
    · exact (ofVH_call hs).elim
    · unfold soBox at hs
      split at hs
      · exact (ofVH_call hs).elim
      · cases hs
    · unfold soSlice at hs
      split at hs
      · exact (ofVH_call hs).elim
      · cases hs
    · unfold soLoad at hs
      split at hs
      · exact (ofV_call hs).elim
      · cases hs
    · unfold soStore at hs
      split at hs
      · split at hs <;> cases hs
      · cases hs
    · unfold soMake at hs
      split at hs
      · exact (ofVH_call hs).elim
      · cases hs
    · rename_i c ho
      unfold soCall at hs
      split at hs
      · rename_i as hca
        unfold callArgs at hca
        split at hca
        · rename_i hk
          cases hca
          unfold soCall1 at hs
          split at hs
          · rename_i b hb
            unfold sbuiltin at hs
            split at hs
            · exact (ofVHW_call hs).elim
            · exact (ofVHW_call hs).elim
            · exact (ofV_call hs).elim
            · exact (ofV_call hs).elim
            · exact (ofVHW_call hs).elim
            · exact (ofVHW_call hs).elim
            · cases hs
          · rename_i g hg
            split at hs
            · rename_i hgx
              obtain ⟨c1, c2, e1, hf, rfl⟩ := scall_some hs
              have hv := sev_rel ht hgx
              rw [e1] at hv
              obtain ⟨d1, d2, e2, l1, l2⟩ := hv.func_inv
              have hl := LR.map_ ht hk
              refine ⟨d1 ++ c.args.map a.eval ++ d2, fun W => ?_, ?_⟩
              · simp only [execOp, ho, resolve, hg]
                simp [Deferred.ofValue, e2, invoke, isFn_ok hN hf]
              · simpa using (l1.append hl).append l2
            · cases hs
          · cases hs
        · cases hca
      · cases hs
    · unfold soStr at hs
      split at hs
      · exact (ofV_call hs).elim
      · cases hs
    · unfold soMap at hs
      split at hs
      · exact (ofVH_call hs).elim
      · cases hs
    · unfold soLook at hs
      split at hs
      · exact (ofV_call hs).elim
      · cases hs
    · unfold soUpd at hs
      split at hs
      · exact (ofU_call hs).elim
      · cases hs
    · unfold soUpd at hs
      split at hs
      · exact (ofU_call hs).elim
      · cases hs
    · unfold soEnt at hs
      split at hs
      · exact (ofVHW_call hs).elim
      · cases hs
    · unfold soEnS at hs
      split at hs
      · exact (ofU_call hs).elim
      · cases hs
    · cases hs
theorem cell_heap {W w : World} {x o : Nat} {s : Option Nat} (h : w.heap[x]? = W.heap[x]?) : w.cell? ⟨x, o, s⟩ = W.cell? ⟨x, o, s⟩ := by simp [World.cell?, h]
theorem sload_at {n0 : Nat} {ρ : Rn} {H : Heap} {W : World} {t : TypeId} {b k : Nat} {v' u : Value} (hs : sload P t (.pointer (some ⟨b, k, none⟩)) H = some u) (hv : VR ρ (.pointer (some ⟨b, k, none⟩)) v') (h : HR P n0 ρ H W) :
    ∃ u' L, ρ b = some L ∧ VR ρ u u' ∧ ∀ w : World, w.heap[L.x]? = W.heap[L.x]? → (Instr.loadAt t v').run P w = .ok u' w := by
  obtain ⟨L, hL, rfl⟩ := hv.ptr_inv
  unfold sload at hs
  simp only [inf_eq, und_eq, fun1_eq] at hs
  split at hs
  · rename_i xs ty hb
    split at hs
    · rename_i d i hu hi
      split at hs
      · rename_i hd
        split at hs
        · rename_i hle
          cases hs
          obtain ⟨ys, h1, h2, h3⟩ := h.cells hb hL k i.size (Nat.le_of_ble_eq_true hle)
          refine ⟨.agg ys.toArray, L, hL, VR.agg_ h1, fun w hw => ?_⟩
          have hl := run_loadCells_list (P := P) w ⟨L.x, L.s + k, none⟩ ys (fun j v hv => by
            have := h3 j v hv
            rw [add_plain] at this ⊢
            rw [cell_heap hw]
            exact this)
          rw [h2] at hl
          simp [Instr.loadAt, Instr.sureAddr, loadVar, Sem.run_bind, agg_get hu, hd, size_get hi, hl]
        · cases hs
      · rename_i hd
        have hlt := (List.getElem?_eq_some_iff.1 hs).1
        obtain ⟨ys, h1, h2, h3⟩ := h.cells hb hL k 1 (by omega)
        obtain ⟨u', a, c⟩ := h1.get (i := 0) (v := u) (by simp [hs])
        refine ⟨u', L, hL, c, fun w hw => ?_⟩
        have hc := h3 0 u' a
        rw [add_plain] at hc
        simp only [Nat.add_zero] at hc
        rw [← cell_heap hw] at hc
        simp [Instr.loadAt, Instr.sureAddr, loadVar, Sem.run_bind, agg_get hu, hd, hc]
    · cases hs
  · cases hs
/-- What a guard sees. -/
theorem VR.bool {ρ : Rn} {v v' : Value} (h : VR ρ v v') (b : Bool) : v = .bool b ↔ v' = .bool b := by
  cases h <;> simp
def boolOf : Value → Option Bool
  | .bool b => some b
  | _ => none
def syl (ops : Array Oper) (tm : Tr Value) (j : Nat) : Option Bool :=
  match (ops[j]?).bind (·.dst) with
  | some t => boolOf (tm.get undef t)
  | none => none
theorem boolOf_rel {ρ : Rn} {v v' : Value} (h : VR ρ v v') : boolOf v = boolOf v' := by cases h <;> rfl
theorem yielded_eq {ρ : Rn} {tm : Tr Value} {a : Act} {ops : Array Oper} (h : FR ρ tm a.tmps.toList) (j : Nat) : syl ops tm j = yielded ops a.tmps j := by
  unfold yielded syl
  cases hd : (ops[j]?).bind (·.dst) with
  | none => rfl
  | some t =>
    have := boolOf_rel (h.get t)
    rw [Array.getElem?_toList] at this
    simp only [Option.bind_some, this]
    cases hv : a.tmps[t]? with
    | none => rfl
    | some v => cases v <;> rfl
theorem wanted_eq {ρ : Rn} {tm : Tr Value} {a : Act} {ops : Array Oper} (h : FR ρ tm a.tmps.toList) (o : Oper) : Region.wanted o (syl ops tm) = Region.wanted o (yielded ops a.tmps) := by
  have : syl ops tm = yielded ops a.tmps := funext fun j => yielded_eq h j
  rw [this]
def putv (dst : Option Tmp) (v : Value) (tm : Tr Value) : Tr Value :=
  match dst with
  | some d => tm.set v d
  | none => tm
theorem putv_rel {ρ : Rn} {tm : Tr Value} {a : Act} (h : FR ρ tm a.tmps.toList) (dst : Option Tmp) {v v' : Value} (hv : VR ρ v v') : FR ρ (putv dst v tm) (a.put dst v').tmps.toList := by
  cases dst with
  | none => exact h
  | some d =>
    simp only [putv, Act.put, Array.toList_setIfInBounds]
    exact h.set d hv

def teq {α : Type} (eq : α → α → Bool) : Tr α → Tr α → Bool
  | .nil, .nil => true
  | .leaf v, .leaf w => eq v w
  | .node h l r, .node k m s => Nat.beq h k && (teq eq l m && teq eq r s)
  | _, _ => false
theorem teq_eq {α : Type} {eq : α → α → Bool} (h : ∀ x y, eq x y = true → x = y) : ∀ {x y : Tr α}, teq eq x y = true → x = y
  | .nil, .nil, _ => rfl
  | .leaf v, .leaf w, e => by rw [h v w (by simpa [teq] using e)]
  | .node a l r, .node k m s, e => by
    simp only [teq, Bool.and_eq_true] at e
    rw [(beq_of _ _).1 e.1, teq_eq h e.2.1, teq_eq h e.2.2]
  | .nil, .leaf _, e => by simp [teq] at e
  | .nil, .node _ _ _, e => by simp [teq] at e
  | .leaf _, .nil, e => by simp [teq] at e
  | .leaf _, .node _ _ _, e => by simp [teq] at e
  | .node _ _ _, .nil, e => by simp [teq] at e
  | .node _ _ _, .leaf _, e => by simp [teq] at e
/-- Equal values. -/
def leqW (eq : Value → Value → Bool) : List Value → List Value → Bool
  | [], [] => true
  | x :: xs, y :: ys => eq x y && leqW eq xs ys
  | _, _ => false
def veq : Nat → Value → Value → Bool
  | 0, _, _ => false
  | d + 1, v, w => match v, w with
    | .bool a, .bool b => a == b
    | .int k a, .int l b => decide (k = l) && decide (a = b)
    | .string a, .string b => decide (a = b)
    | .pointer a, .pointer b => decide (a = b)
    | .slice a n c, .slice b m e => decide (a = b) && (Nat.beq n m && Nat.beq c e)
    | .map a, .map b => decide (a = b)
    | .nilFunc, .nilFunc => true
    | .nilIface, .nilIface => true
    | .func f as cs, .func g bs ds => decide (f = g) && (leqW (veq d) as.toList bs.toList && leqW (veq d) cs.toList ds.toList)
    | .agg as, .agg bs => leqW (veq d) as.toList bs.toList
    | .tuple as, .tuple bs => leqW (veq d) as.toList bs.toList
    | _, _ => false
theorem leqW_eq {eq : Value → Value → Bool} (h : ∀ x y, eq x y = true → x = y) : ∀ {xs ys : List Value}, leqW eq xs ys = true → xs = ys
  | [], [], _ => rfl
  | x :: xs, y :: ys, e => by
    simp only [leqW, Bool.and_eq_true] at e
    rw [h x y e.1, leqW_eq h e.2]
  | [], _ :: _, e => by simp [leqW] at e
  | _ :: _, [], e => by simp [leqW] at e
theorem veq_eq : ∀ (d : Nat) (v w : Value), veq d v w = true → v = w
  | 0, _, _, h => by simp [veq] at h
  | d + 1, v, w, h => by
    have ih := fun {xs ys : List Value} => leqW_eq (eq := veq d) (fun x y => veq_eq d x y) (xs := xs) (ys := ys)
    unfold veq at h
    split at h
    · simp at h; rw [h]
    · simp at h; rw [h.1, h.2]
    · simp at h; rw [h]
    · simp at h; rw [h]
    · simp only [Bool.and_eq_true, decide_eq_true_eq] at h
      rw [h.1, (beq_of _ _).1 h.2.1, (beq_of _ _).1 h.2.2]
    · simp at h; rw [h]
    · rfl
    · rfl
    · simp only [Bool.and_eq_true, decide_eq_true_eq] at h
      rw [h.1, Array.ext' (ih h.2.1), Array.ext' (ih h.2.2)]
    · rw [Array.ext' (ih h)]
    · rw [Array.ext' (ih h)]
    · cases h
def eeq : List (Value × Value × Nat) → List (Value × Value × Nat) → Bool
  | [], [] => true
  | (a, b, c) :: r, (x, y, z) :: s => veq 9 a x && (veq 9 b y && (Nat.beq c z && eeq r s))
  | _, _ => false
theorem eeq_eq : ∀ {l m : List (Value × Value × Nat)}, eeq l m = true → l = m
  | [], [], _ => rfl
  | (a, b, c) :: r, (x, y, z) :: s, h => by
    simp only [eeq, Bool.and_eq_true] at h
    rw [veq_eq _ _ _ h.1, veq_eq _ _ _ h.2.1, (beq_of _ _).1 h.2.2.1, eeq_eq h.2.2.2]
  | [], _ :: _, h => by simp [eeq] at h
  | _ :: _, [], h => by simp [eeq] at h
def oeq : SObj → SObj → Bool
  | .cells xs t, .cells ys u => Nat.beq t u && leqW (veq 9) xs ys
  | .map es k, .map fs l => Nat.beq k l && eeq es fs
  | .dead, .dead => true
  | _, _ => false
theorem oeq_eq {o p : SObj} (h : oeq o p = true) : o = p := by
  cases o <;> cases p <;> simp only [oeq, Bool.and_eq_true, Bool.false_eq_true] at h
  · rw [(beq_of _ _).1 h.1, leqW_eq (fun x y => veq_eq 9 x y) h.2]
  · rw [(beq_of _ _).1 h.1, eeq_eq h.2]
  · rfl
def heq : Heap → Heap → Bool
  | [], [] => true
  | (b, o) :: r, (c, p) :: s => Nat.beq b c && (oeq o p && heq r s)
  | _, _ => false
theorem heq_eq : ∀ {G H : Heap}, heq G H = true → G = H
  | [], [], _ => rfl
  | (b, o) :: r, (c, p) :: s, h => by
    simp only [heq, Bool.and_eq_true] at h
    rw [(beq_of _ _).1 h.1, oeq_eq h.2.1, heq_eq h.2.2]
  | [], _ :: _, h => by simp [heq] at h
  | _ :: _, [], h => by simp [heq] at h

end
end Go.Proofs.YtfnphhmcbdoojaaGreatDoor.Sim
