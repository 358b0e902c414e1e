/- Symbolic run of calls, whole: what it says of a call with known arguments. No program is named here. -/
import Derived.Test.YtfnphhmcbdoojaaGreatDoorSimP
set_option linter.unusedSimpArgs false
namespace Go.Proofs.YtfnphhmcbdoojaaGreatDoor.Sim
open Go Go.RowKit Go.WideShapes

noncomputable section

variable {P : Program}
def rf (tmps : Array Value) (r : ResultVar) : Sem Value :=
  match r with
  | .tmp t => pure (tmps.getD t undef)
  | .cell a t => do loadVar t (← asAddr (tmps.getD a undef))
theorem results_rf (fn : Func) (tmps : Array Value) : results fn tmps = (do let vs ← fn.results.mapM (rf tmps); pure (if h : vs.size = 1 then vs[0] else .tuple vs)) := by
  unfold results
  congr 1
def sres (P : Program) (tm : Tr Value) (H : Heap) : List ResultVar → Option (List Value)
  | [] => some []
  | .tmp t :: r => match sres P tm H r with
    | some l => some (tm.get undef t :: l)
    | none => none
  | .cell a t :: r => match sload P t (tm.get undef a) H, sres P tm H r with
    | some v, some l => some (v :: l)
    | _, _ => none
theorem getD_rel {ρ : Rn} {tm : Tr Value} {a : Act} (h : FR ρ tm a.tmps.toList) (t : Nat) : VR ρ (tm.get undef t) (a.tmps.getD t undef) := sev_rel h (x := .tmp t) rfl
theorem sres_ok {n0 : Nat} {ρ : Rn} {H : Heap} {W : World} {tm : Tr Value} {a : Act} (ht : FR ρ tm a.tmps.toList) (h : HR P n0 ρ H W) : ∀ {l : List ResultVar} {vs : List Value}, sres P tm H l = some vs → ∃ us, (l.mapM (rf a.tmps)).run P W = .ok us W ∧ LR ρ vs us
  | [], vs, hs => by
    simp only [sres, Option.some.injEq] at hs
    subst hs
    exact ⟨[], rfl, LR.nil ρ⟩
  | .tmp t :: r, vs, hs => by
    simp only [sres] at hs
    split at hs
    · rename_i l hl
      cases hs
      obtain ⟨us, k1, k2⟩ := sres_ok ht h hl
      exact ⟨_, by simp [List.mapM_cons, rf, k1], LR.cons (getD_rel ht t) k2⟩
    · cases hs
  | .cell q t :: r, vs, hs => by
    simp only [sres] at hs
    split at hs
    · rename_i v l hv hl
      cases hs
      obtain ⟨us, k1, k2⟩ := sres_ok ht h hl
      have hq := getD_rel ht q
      obtain ⟨u', k3, k4⟩ := sload_ok hv hq h
      refine ⟨_, ?_, LR.cons k4 k2⟩
      have hp : ∃ p, a.tmps.getD q undef = .pointer (some p) := by
        unfold sload at hv
        simp only [inf_eq, und_eq, fun1_eq] at hv
        split at hv
        · rename_i b o e
          rw [e] at hq
          obtain ⟨L, -, e2⟩ := hq.ptr_inv
          exact ⟨_, e2⟩
        · cases hv
      obtain ⟨p, hp⟩ := hp
      rw [hp] at k3
      simp [Instr.loadAt, Instr.sureAddr] at k3
      have e : (rf a.tmps (.cell q t)).run P W = .ok u' W := by simp only [rf, hp]; simp [asAddr, k3]
      simp [List.mapM_cons, e, k1]
    · cases hs
def oneOf (l : List Value) : Value :=
  match l with
  | [v] => v
  | _ => .tuple l.toArray
theorem oneOf_rel {ρ : Rn} {vs us : List Value} (h : LR ρ vs us) : VR ρ (oneOf vs) (if hh : us.toArray.size = 1 then us.toArray[0] else .tuple us.toArray) := by
  have hl := h.1
  match vs, us, h, hl with
  | [v], [u], h, _ => exact h.2 0 v u rfl rfl
  | [], [], h, _ => exact VR.tuple_ h
  | v :: v2 :: r, u :: u2 :: s, h, _ =>
    simp only [oneOf]
    rw [dif_neg (by simp)]
    exact VR.tuple_ h
  | [], _ :: _, _, hl => simp at hl
  | [_], [], _, hl => simp at hl
  | [_], _ :: _ :: _, _, hl => simp at hl
  | _ :: _ :: _, [], _, hl => simp at hl
  | _ :: _ :: _, [_], _, hl => simp at hl
def Ex.fin : Ex → Bool
  | .normal => true
  | .ret => true
  | .exit _ => false
def oldW (H : Heap) : List Nat → List Nat
  | [] => []
  | b :: r => match hget H b with
    | some _ => b :: oldW H r
    | none => oldW H r
theorem oldW_mem {H : Heap} : ∀ {l : List Nat} {b : Nat}, b ∈ l → b ∈ oldW H l ∨ hget H b = none
  | [], b, h => by simp at h
  | c :: r, b, h => by
    simp only [oldW]
    rcases List.mem_cons.1 h with rfl | h
    · split
      · exact .inl (by simp)
      · rename_i e
        exact .inr e
    · rcases oldW_mem (H := H) h with k | k
      · split
        · exact .inl (by simp [k])
        · exact .inl k
      · exact .inr k
def callD (P : Program) (fuel : Nat) : Nat → CallF
  | 0 => fun _ _ _ _ => none
  | d + 1 => fun f bs H nm => match fun1 P f with
    | some fn => match fn.body with
      | some c => match Nat.ble bs.length fn.ntmps, exec P (callD P fuel d) fuel c (nm * 65536) (frame0 bs fn.ntmps) H [] with
        | true, some (ex, _, tm', H', wr') => match ex.fin, sres P tm' H' fn.results.toList with
          | true, some l => match gc nm H (oneOf l) (oldW H wr') H' with
            | some H2 => some (oneOf l, H2, oldW H wr')
            | none => none
          | _, _ => none
        | _, _ => none
      | none => none
    | none => none
theorem callD_ok (hN : namesOk P = true) (hm : P.follows .mixedOrders = true) (n0 fuel : Nat) : ∀ d : Nat, CallOk P n0 (callD P fuel d)
  | 0 => fun f bs H nm v H' wr hs => by simp [callD] at hs
  | d + 1 => fun f bs H nm v H' wr hs ρ W args hl hH h0 => by
    simp only [callD, fun1_eq] at hs
    split at hs
    · rename_i fn hf
      split at hs
      · rename_i c hb
        split at hs
        · rename_i ex tk tm' H2 wr' hble hex
          split at hs
          · rename_i l hfin hres
            split at hs
            · rename_i H3 hgc
              cases hs
              have hlen : fn.ntmps - args.size = fn.ntmps - bs.length := by have := hl.1; simp at this; rw [this]
              have hrel : Rel P n0 ρ H W (frame0 bs fn.ntmps) H [] { tmps := args ++ Array.replicate (fn.ntmps - args.size) undef, defers := [] } W := by
                refine ⟨ρ, ?_, rfl, Okay.refl hH⟩
                have := hl.append (LR.repl (ρ := ρ) (fn.ntmps - bs.length) (v := undef) (v' := undef) (.lit rfl))
                obtain ⟨f1, f2⟩ := frame0_eq (Nat.le_of_ble_eq_true hble)
                refine ⟨f1, ?_⟩
                rw [f2, hlen]
                simpa using this
              refine calls_of_wp hf hb (wp_mono (exec_ok hN (callD_ok hN hm n0 fuel d) hm h0 fuel hex hrel) ?_)
              rintro e a' W' ⟨rfl, ρ1, k1, k2, k3⟩
              obtain ⟨us, k4, k5⟩ := sres_ok k1 k3.hr hres
              have hrun : (results fn a'.tmps).run P W' = .ok (if hh : us.toArray.size = 1 then us.toArray[0] else .tuple us.toArray) W' := by
                rw [results_rf]
                have hmm : (fn.results.mapM (rf a'.tmps)).run P W' = .ok us.toArray W' := by
                  rw [← Array.toArray_toList (xs := fn.results), List.mapM_toArray, map_eq_pure_bind, Sem.run_bind, k4]
                  rfl
                rw [Sem.run_bind, hmm]
                rfl
              obtain ⟨ρ2, m1, m2⟩ := gc_ok hgc hH (k3.wr_dom fun b hb => oldW_mem hb) (oneOf_rel k5)
              have hfinal : ∃ v, (results fn a'.tmps).run P W' = .ok v W' ∧ ∃ ρ' v', Ending.returned v = .returned v' ∧ VR ρ' (oneOf l) v' ∧ Okay P n0 ρ H W H' (oldW H wr') ρ' W' := ⟨_, hrun, ρ2, _, rfl, m1, m2⟩
              cases ex with
              | normal => exact ⟨k2, hfinal⟩
              | ret => exact ⟨k2, hfinal⟩
              | exit k => simp [Ex.fin] at hfin
            · cases hs
          · cases hs
        · cases hs
      · cases hs
    · cases hs
/-- A call whose arguments are plain and known, in whatever memory. -/
theorem run_top (hN : namesOk P = true) (hm : P.follows .mixedOrders = true) {fuel d : Nat} {f : FuncId} {bs : List Value} {v : Value} {H' : Heap} {wr : List Nat} (hb : bs.all isLit = true) (h : callD P fuel d f bs [] 1 = some (v, H', wr)) (hl : isLit v = true) (W : World) :
    Calls P f bs.toArray W fun e W' => Below W.heap.size W W' ∧ e = .returned v := by
  have hH : HR P W.heap.size (fun _ => none) [] W := ⟨(fun b L hb => by cases hb), (fun b o hb => by simp [hget_nil, hget_eq] at hb), (fun b b' o o' L L' hb => by simp [hget_nil, hget_eq] at hb)⟩
  refine (callD_ok hN hm W.heap.size fuel d f bs [] 1 v H' wr h (fun _ => none) W bs.toArray (by simpa using LR.lits hb) hH (Nat.le_refl _)).mono ?_
  rintro e W' ⟨ρ', v', rfl, k1, k2⟩
  exact ⟨k2.below, by rw [k1.lit_eq hl]⟩
def isTrue (r : Option (Value × Heap × List Nat)) : Bool :=
  match r with
  | some (.bool true, _, _) => true
  | _ => false
theorem run_true (hN : namesOk P = true) (hm : P.follows .mixedOrders = true) {fuel d : Nat} {f : FuncId} (h : isTrue (callD P fuel d f [] [] 1) = true) (W : World) : Calls P f #[] W fun e W' => Below W.heap.size W W' ∧ e = .returned (.bool true) := by
  unfold isTrue at h
  split at h
  · rename_i H' wr hr
    exact run_top hN hm rfl hr rfl W
  · cases h

end
end Go.Proofs.YtfnphhmcbdoojaaGreatDoor.Sim
