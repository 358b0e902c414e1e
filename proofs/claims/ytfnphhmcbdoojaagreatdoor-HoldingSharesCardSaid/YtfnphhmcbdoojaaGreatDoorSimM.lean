/- Symbolic run of a region, in whatever order. No program is named here. -/
import Derived.Test.YtfnphhmcbdoojaaGreatDoorSimL
namespace Go.Proofs.YtfnphhmcbdoojaaGreatDoor.Sim
open Go Go.RowKit Go.WideShapes

noncomputable section

variable {P : Program}
abbrev CallF := FuncId → List Value → Heap → Nat → Option (Value × Heap × List Nat)
def CallOk (P : Program) (n0 : Nat) (call : CallF) : Prop := ∀ (f : FuncId) (bs : List Value) (H : Heap) (nm : Nat) (v : Value) (H' : Heap) (wr : List Nat), call f bs H nm = some (v, H', wr) →
  ∀ (ρ : Rn) (W : World) (args : Array Value), LR ρ bs args.toList → HR P n0 ρ H W → n0 ≤ W.heap.size → Calls P f args W fun e W' => ∃ ρ' v', e = .returned v' ∧ VR ρ' v v' ∧ Okay P n0 ρ H W H' wr ρ' W'
/-- A frame and a world are what the run says. -/
def Rel (P : Program) (n0 : Nat) (ρ0 : Rn) (H0 : Heap) (W0 : World) (tm : Tr Value) (H : Heap) (wr : List Nat) (a : Act) (W : World) : Prop :=
  ∃ ρ, FR ρ tm a.tmps.toList ∧ a.defers = [] ∧ Okay P n0 ρ0 H0 W0 H wr ρ W
theorem Okay.wr_dom {n0 : Nat} {ρ ρ1 : Rn} {H H1 : Heap} {W W1 : World} {wr wr' : List Nat} (h : Okay P n0 ρ H W H1 wr ρ1 W1) (hs : ∀ b, b ∈ wr → b ∈ wr' ∨ hget H b = none) : Okay P n0 ρ H W H1 wr' ρ1 W1 :=
  ⟨h.ext, h.hr, h.below, fun b o L a hd hn hL => h.fr b o L a hd (fun hb => (hs b hb).elim hn fun e => by rw [e] at a; cases a) hL, fun b o a hn => h.fr1 b o a (fun hb => (hs b hb).elim hn fun e => by rw [e] at a; cases a)⟩
theorem Rel.wr_dom {n0 : Nat} {ρ0 : Rn} {H0 H : Heap} {W0 W : World} {tm : Tr Value} {a : Act} {wr wr' : List Nat} (h : Rel P n0 ρ0 H0 W0 tm H wr a W) (hs : ∀ b, b ∈ wr → b ∈ wr' ∨ hget H0 b = none) : Rel P n0 ρ0 H0 W0 tm H wr' a W := by
  obtain ⟨ρ, h1, h2, h3⟩ := h
  exact ⟨ρ, h1, h2, h3.wr_dom hs⟩
def swant (ops : Array Oper) (o : Oper) (tm : Tr Value) : Bool :=
  match o.guard with
  | none => true
  | some _ => Region.wanted o (syl ops tm)
theorem swant_eq {ρ : Rn} {tm : Tr Value} {a : Act} {ops : Array Oper} (h : FR ρ tm a.tmps.toList) (o : Oper) : swant ops o tm = Region.wanted o (yielded ops a.tmps) := by
  unfold swant
  cases hg : o.guard with
  | none => simp [Region.wanted, hg]
  | some g => exact wanted_eq h o
def runOp (P : Program) (call : CallF) (ops : Array Oper) (base i : Nat) (o : Oper) (tm : Tr Value) (H : Heap) : Option (Tr Value × Heap × List Nat) :=
  match swant ops o tm with
  | false => some (putv o.dst undef tm, H, [])
  | true => match sop P (base + i) o tm H with
    | some (.val v H' wr) => some (putv o.dst v tm, H', wr)
    | some (.call f bs) => match call f bs H (base + i) with
      | some (v, H', wr) => some (putv o.dst v tm, H', wr)
      | none => none
    | none => none
theorem put_defers (a : Act) (dst : Option Tmp) (v : Value) : (a.put dst v).defers = a.defers := by cases dst <;> rfl
theorem runOp_ok (hN : namesOk P = true) {n0 : Nat} {call : CallF} (hc : CallOk P n0 call) {ops : Array Oper} {base i : Nat} {tm tm' : Tr Value} {H H' : Heap} {wr' : List Nat} {o : Oper} (ho : ops[i]? = some o) (hs : runOp P call ops base i o tm H = some (tm', H', wr'))
    {ρ0 : Rn} {H0 : Heap} {W0 : World} (h0 : n0 ≤ W0.heap.size) {wr : List Nat} {a : Act} {W : World} (hr : Rel P n0 ρ0 H0 W0 tm H wr a W) {Q : Exit → Act → World → Prop} {K : Act → World → Prop}
    (hK : ∀ a' W', Rel P n0 ρ0 H0 W0 tm' H' (wr ++ wr') a' W' → K a' W') : wpOp P ops Q i K a W := by
  obtain ⟨ρ, h1, h2, h3⟩ := hr
  have hn : n0 ≤ W.heap.size := Nat.le_trans h0 h3.below.size
  unfold runOp at hs
  unfold wpOp
  rw [ho]
  simp only
  rw [← swant_eq h1 o]
  · split at hs
    · rename_i hw
      cases hs
      rw [hw]
      simp only [Bool.false_eq_true, if_false]
      refine hK _ _ ⟨ρ, putv_rel h1 o.dst (.lit rfl), by rw [put_defers]; exact h2, by simpa using h3⟩
    · rename_i hw
      rw [hw]
      simp only [if_true]
      refine .inl ?_
      unfold Oper.wp
      split at hs
      · rename_i v H2 wr2 hv
        cases hs
        obtain ⟨ρ', W', nx, v', k1, k2, k3, k4⟩ := sop_val hv h1 h3.hr hn
        rw [k1]
        have hfin : K (a.put o.dst v') W' := hK _ _ ⟨ρ', putv_rel (h1.mono k4.ext) o.dst k3, by rw [put_defers]; exact h2, h3.trans k4⟩
        rcases k2 with rfl | ⟨rfl, rfl⟩
        · exact hfin
        · exact hfin
      · rename_i f bs hv
        split at hs
        · rename_i v H2 wr2 hcall
          cases hs
          obtain ⟨args, k1, k2⟩ := sop_call hN hv h1
          rw [k1, Oper.upon_enter]
          refine (hc f bs H (base + i) v H' wr' hcall ρ W args k2 h3.hr hn).mono ?_
          rintro e W' ⟨ρ', v', rfl, k3, k4⟩
          exact hK _ _ ⟨ρ', putv_rel (h1.mono k4.ext) o.dst k3, by rw [put_defers]; exact h2, h3.trans k4⟩
        · cases hs
      · cases hs
/-- In the text's order. -/
def runL (P : Program) (call : CallF) (ops : Array Oper) (base : Nat) : List Oper → Nat → Tr Value → Heap → List Nat → Option (Tr Value × Heap × List Nat)
  | [], _, tm, H, wr => some (tm, H, wr)
  | o :: r, i, tm, H, wr => match runOp P call ops base i o tm H with
    | some (tm', H', []) => runL P call ops base r (Nat.succ i) tm' H' wr
    | some (tm', H', wr') => runL P call ops base r (Nat.succ i) tm' H' (wr ++ wr')
    | none => none
theorem runL_ok (hN : namesOk P = true) {n0 : Nat} {call : CallF} (hc : CallOk P n0 call) {ops : Array Oper} {base : Nat} {ρ0 : Rn} {H0 : Heap} {W0 : World} (h0 : n0 ≤ W0.heap.size) {Q : Exit → Act → World → Prop} {tm' : Tr Value} {H' : Heap} {wr' : List Nat}
    (hQ : ∀ a' W', Rel P n0 ρ0 H0 W0 tm' H' wr' a' W' → Q .normal a' W') : ∀ (l : List Oper) {i : Nat} {tm : Tr Value} {H : Heap} {wr : List Nat} {a : Act} {W : World}, ops.toList.drop i = l → runL P call ops base l i tm H wr = some (tm', H', wr') → Rel P n0 ρ0 H0 W0 tm H wr a W → wpOps P ops Q (List.range' i l.length) a W
  | [], i, tm, H, wr, a, W, hl, hs, hr => by
    simp only [runL, Option.some.injEq, Prod.mk.injEq] at hs
    obtain ⟨rfl, rfl, rfl⟩ := hs
    exact hQ a W hr
  | o :: r, i, tm, H, wr, a, W, hl, hs, hr => by
    have ho : ops[i]? = some o := by
      have h1 : (ops.toList.drop i)[0]? = some o := by rw [hl]; rfl
      rw [List.getElem?_drop] at h1
      simpa using h1
    have hr' : ops.toList.drop (i + 1) = r := by
      rw [show i + 1 = 1 + i from Nat.add_comm i 1, Nat.add_comm 1 i, ← List.drop_drop, hl]
      rfl
    simp only [runL] at hs
    rw [List.length_cons, List.range'_succ, wpOps_cons]
    split at hs
    · rename_i tm2 H2 hop
      refine runOp_ok hN hc ho hop h0 hr fun a' W' hr2 => runL_ok hN hc h0 hQ r hr' hs ?_
      simpa using hr2
    · rename_i tm2 H2 wr2 _ hop
      exact runOp_ok hN hc ho hop h0 hr fun a' W' hr2 => runL_ok hN hc h0 hQ r hr' hs hr2
    · cases hs
theorem runL_all (hN : namesOk P = true) {n0 : Nat} {call : CallF} (hc : CallOk P n0 call) {ops : Array Oper} {base : Nat} {ρ0 : Rn} {H0 : Heap} {W0 : World} (h0 : n0 ≤ W0.heap.size) {Q : Exit → Act → World → Prop} {tm' : Tr Value} {H' : Heap} {wr' : List Nat}
    (hQ : ∀ a' W', Rel P n0 ρ0 H0 W0 tm' H' wr' a' W' → Q .normal a' W') {tm : Tr Value} {H : Heap} {wr : List Nat} {a : Act} {W : World} (hs : runL P call ops base ops.toList 0 tm H wr = some (tm', H', wr')) (hr : Rel P n0 ρ0 H0 W0 tm H wr a W) : wpOps P ops Q (List.range ops.size) a W := by
  have := runL_ok hN hc h0 hQ ops.toList (i := 0) (by simp) hs hr
  rwa [Array.length_toList, ← List.range_eq_range'] at this

end
end Go.Proofs.YtfnphhmcbdoojaaGreatDoor.Sim
