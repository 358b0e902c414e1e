/- Symbolic run of calls, where contracts may stand in for some of them. No program is named here. -/
import Derived.Test.YtmcefodfppdajaaSim2
set_option linter.unusedSimpArgs false
namespace Go.Proofs.Ytmcefodfppdajaa.Sim
open Go Go.RowKit Go.WideShapes

noncomputable section

variable {P : Program}
/-- Contracts that stand in for calls with a plain result: what is new in memory is forgotten. -/
abbrev Orc := FuncId → List Value → Heap → Option Value
def OrcOk (P : Program) (g : Orc) : Prop := ∀ (f : FuncId) (bs : List Value) (H : Heap) (v : Value), g f bs H = some v → isLit v = true ∧
  ∀ (n0 : Nat) (ρ : Rn) (W : World) (args : Array Value), LR ρ bs args.toList → HR P n0 ρ H W → n0 ≤ W.heap.size → Calls P f args W fun e W' => Below W.heap.size W W' ∧ e = .returned v
theorem Okay.below_ {n0 : Nat} {ρ : Rn} {H : Heap} {W W' : World} (h0 : n0 ≤ W.heap.size) (h : HR P n0 ρ H W) (hb : Below W.heap.size W W') : Okay P n0 ρ H W H [] ρ W' :=
  have hx : ∀ (b : Nat) (o : SObj) (L : Loc), hget H b = some o → ρ b = some L → W'.heap[L.x]? = W.heap[L.x]? := fun b o L a hL => by
    obtain ⟨L2, k1, k2, k3, k4⟩ := h.obj b o a
    rw [hL] at k1
    cases k1
    exact hb.block _ k3
  ⟨Ext.refl _, ⟨h.dom, fun b o a => by
    obtain ⟨L, k1, k2, k3, k4⟩ := h.obj b o a
    exact ⟨L, k1, k2, Nat.lt_of_lt_of_le k3 hb.size, k4.mono (Ext.refl _) (hx b o L a k1)⟩, h.inj⟩,
   hb.mono h0, fun b o L a _ _ hL => ⟨a, hx b o L a hL⟩, fun _ _ a _ => a⟩
def callX (P : Program) (g : Orc) (fuel : Nat) : Nat → CallF
  | 0 => fun _ _ _ _ => none
  | d + 1 => fun f bs H nm => match g f bs H with
   | some v => some (v, H, [])
   | none => match fun1 P f with
    | some fn => match fn.body with
      | some c => match Nat.ble bs.length fn.ntmps, exec P (callX P g fuel d) fuel c (nm * 65536) (frame0 bs fn.ntmps) H [] with
        | true, some (ex, _, tm', H', wr') => match ex.fin, sres P tm' H' fn.results.toList with
          | true, some l => match gc nm H (oneOf l) (oldW H wr') H' with
            | some H2 => some (oneOf l, H2, oldW H wr')
            | none => none
          | _, _ => none
        | _, _ => none
      | none => none
    | none => none
theorem callX_ok {g : Orc} (hg : OrcOk P g) (hN : namesOk P = true) (hm : P.follows .mixedOrders = true) (n0 fuel : Nat) : ∀ d : Nat, CallOk P n0 (callX P g fuel d)
  | 0 => fun f bs H nm v H' wr hs => by simp [callX] at hs
  | d + 1 => fun f bs H nm v H' wr hs ρ W args hl hH h0 => by
    simp only [callX, fun1_eq] at hs
    split at hs
    · rename_i v0 hv0
      cases hs
      obtain ⟨k1, k2⟩ := hg f bs H v hv0
      refine (k2 n0 ρ W args hl hH h0).mono ?_
      rintro e W2 ⟨hb, rfl⟩
      exact ⟨ρ, v, rfl, .lit k1, Okay.below_ h0 hH hb⟩
    · split at hs
      · rename_i fn hf
        split at hs
        · rename_i c hb
          split at hs
          · rename_i ex tk tm' H2 wr' hble hex
            split at hs
            · rename_i l hfin hres
              split at hs
              · rename_i H3 hgc
                cases hs
                have hlen : fn.ntmps - args.size = fn.ntmps - bs.length := by have := hl.1; simp at this; rw [this]
                have hrel : Rel P n0 ρ H W (frame0 bs fn.ntmps) H [] { tmps := args ++ Array.replicate (fn.ntmps - args.size) undef, defers := [] } W := by
                  refine ⟨ρ, ?_, rfl, Okay.refl hH⟩
                  have := hl.append (LR.repl (ρ := ρ) (fn.ntmps - bs.length) (v := undef) (v' := undef) (.lit rfl))
                  obtain ⟨f1, f2⟩ := frame0_eq (Nat.le_of_ble_eq_true hble)
                  refine ⟨f1, ?_⟩
                  rw [f2, hlen]
                  simpa using this
                refine calls_of_wp hf hb (wp_mono (exec_ok hN (callX_ok hg hN hm n0 fuel d) hm h0 fuel hex hrel) ?_)
                rintro e a' W' ⟨rfl, ρ1, k1, k2, k3⟩
                obtain ⟨us, k4, k5⟩ := sres_ok k1 k3.hr hres
                have hrun : (results fn a'.tmps).run P W' = .ok (if hh : us.toArray.size = 1 then us.toArray[0] else .tuple us.toArray) W' := by
                  rw [results_rf]
                  have hmm : (fn.results.mapM (rf a'.tmps)).run P W' = .ok us.toArray W' := by
                    rw [← Array.toArray_toList (xs := fn.results), List.mapM_toArray, map_eq_pure_bind, Sem.run_bind, k4]
                    rfl
                  rw [Sem.run_bind, hmm]
                  rfl
                obtain ⟨ρ2, m1, m2⟩ := gc_ok hgc hH (k3.wr_dom fun b hb => oldW_mem hb) (oneOf_rel k5)
                have hfinal : ∃ v, (results fn a'.tmps).run P W' = .ok v W' ∧ ∃ ρ' v', Ending.returned v = .returned v' ∧ VR ρ' (oneOf l) v' ∧ Okay P n0 ρ H W H' (oldW H wr') ρ' W' := ⟨_, hrun, ρ2, _, rfl, m1, m2⟩
                cases ex with
                | normal => exact ⟨k2, hfinal⟩
                | ret => exact ⟨k2, hfinal⟩
                | exit k => simp [Ex.fin] at hfin
              · cases hs
            · cases hs
          · cases hs
        · cases hs
      · cases hs
theorem run_topX {g : Orc} (hg : OrcOk P g) (hN : namesOk P = true) (hm : P.follows .mixedOrders = true) {fuel d : Nat} {f : FuncId} {bs : List Value} {v : Value} {H' : Heap} {wr : List Nat} (hb : bs.all isLit = true) (h : callX P g fuel d f bs [] 1 = some (v, H', wr)) (hl : isLit v = true) (W : World) :
    Calls P f bs.toArray W fun e W' => Below W.heap.size W W' ∧ e = .returned v := by
  have hH : HR P W.heap.size (fun _ => none) [] W := ⟨(fun b L hb => by cases hb), (fun b o hb => by simp [hget_nil, hget_eq] at hb), (fun b b' o o' L L' hb => by simp [hget_nil, hget_eq] at hb)⟩
  refine (callX_ok hg hN hm W.heap.size fuel d f bs [] 1 v H' wr h (fun _ => none) W bs.toArray (by simpa using LR.lits hb) hH (Nat.le_refl _)).mono ?_
  rintro e W' ⟨ρ', v', rfl, k1, k2⟩
  exact ⟨k2.below, by rw [k1.lit_eq hl]⟩
theorem run_trueX {g : Orc} (hg : OrcOk P g) (hN : namesOk P = true) (hm : P.follows .mixedOrders = true) {fuel d : Nat} {f : FuncId} (h : isTrue (callX P g fuel d f [] [] 1) = true) (W : World) : Calls P f #[] W fun e W' => Below W.heap.size W W' ∧ e = .returned (.bool true) := by
  unfold isTrue at h
  split at h
  · rename_i H' wr hr
    exact run_topX hg hN hm rfl hr rfl W
  · cases h

end
end Go.Proofs.Ytmcefodfppdajaa.Sim
