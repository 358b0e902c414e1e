/- Symbolic run of code and of calls. No program is named here. -/
import Derived.Test.YtfnphhmcbdoojaaGreatDoorSimN
namespace Go.Proofs.YtfnphhmcbdoojaaGreatDoor.Sim
open Go Go.RowKit Go.WideShapes

noncomputable section

variable {P : Program}
inductive Ex where
  | normal
  | exit (id : Nat)
  | ret
def Ex.of : Ex → Exit
  | .normal => .normal
  | .exit id => .exit id
  | .ret => .ret
/-- The name b was given within the call that bears the name nm. -/
def newIn (nm : Nat) : Nat → Nat → Bool
  | 0, _ => false
  | n + 1, b => match Nat.ble b nm with
    | true => false
    | false => match Nat.beq (b / 67108864) nm with
      | true => true
      | false => newIn nm n (b / 67108864)
def nw (nm b : Nat) : Bool := newIn nm 64 b
/-- Written names. -/
def addw : List Nat → List Nat → List Nat
  | [], acc => acc
  | b :: r, acc => match acc.contains b with
    | false => addw r (b :: acc)
    | true => addw r acc
theorem addw_mem : ∀ {l acc : List Nat} {b : Nat}, (b ∈ acc ∨ b ∈ l) → b ∈ addw l acc
  | [], acc, b, h => by simpa [addw] using h
  | c :: r, acc, b, h => by
    simp only [addw]
    split
    · refine addw_mem ?_
      rcases h with h | h
      · exact .inl (by simp [h])
      · rcases List.mem_cons.1 h with rfl | h
        · exact .inl (by simp)
        · exact .inr h
    · rename_i hc
      refine addw_mem ?_
      rcases h with h | h
      · exact .inl h
      · rcases List.mem_cons.1 h with rfl | h
        · exact .inl (by simpa using hc)
        · exact .inr h
theorem Rel.addw {n0 : Nat} {ρ0 : Rn} {H0 H : Heap} {W0 W : World} {tm : Tr Value} {a : Act} {wr wr' : List Nat} (h : Rel P n0 ρ0 H0 W0 tm H (wr ++ wr') a W) : Rel P n0 ρ0 H0 W0 tm H (addw wr' wr) a W :=
  h.wr_dom fun _ hm => .inl (addw_mem (List.mem_append.1 hm))
abbrev ESt := Ex × Nat × Tr Value × Heap × List Nat
def exec (P : Program) (call : CallF) : Nat → Code → Nat → Tr Value → Heap → List Nat → Option ESt
  | 0, _, _, _, _, _ => none
  | n + 1, c, tk, tm, H, wr => match c with
    | .skip => some (.normal, tk, tm, H, wr)
    | .label _ => some (.normal, tk, tm, H, wr)
    | .region _ ops false => match runL P call ops (tk * 1024) ops.toList 0 tm H [] with
      | some (tm', H', wr') => some (.normal, tk + 1, tm', H', addw wr' wr)
      | none => none
    | .region _ ops true => match drawR P call ops (tk * 1024) tm H with
      | some (tm', H', wr') => some (.normal, tk + 1, tm', H', addw wr' wr)
      | none => none
    | .seq x y => match exec P call n x tk tm H wr with
      | some (.normal, tk', tm', H', wr') => exec P call n y tk' tm' H' wr'
      | r => r
    | .cond c x y => match okx c, sev tm c with
      | true, .bool true => exec P call n x tk tm H wr
      | true, .bool false => exec P call n y tk tm H wr
      | _, _ => none
    | .block id x => match exec P call n x tk tm H wr with
      | some (.exit k, tk', tm', H', wr') => match Nat.beq k id with
        | true => some (.normal, tk', tm', H', wr')
        | false => some (.exit k, tk', tm', H', wr')
      | r => r
    | .loop x => match exec P call n x tk tm H wr with
      | some (.normal, tk', tm', H', wr') => exec P call n (.loop x) tk' tm' H' wr'
      | r => r
    | .exit id => some (.exit id, tk, tm, H, wr)
    | .ret => some (.ret, tk, tm, H, wr)
    | _ => none
def Post (P : Program) (n0 : Nat) (ρ0 : Rn) (H0 : Heap) (W0 : World) (s : ESt) : Exit → Act → World → Prop := fun e a W => e = s.1.of ∧ Rel P n0 ρ0 H0 W0 s.2.2.1 s.2.2.2.1 s.2.2.2.2 a W
theorem Rel.ge {n0 : Nat} {ρ0 : Rn} {H0 H : Heap} {W0 W : World} {tm : Tr Value} {a : Act} {wr : List Nat} (h : Rel P n0 ρ0 H0 W0 tm H wr a W) (h0 : n0 ≤ W0.heap.size) : n0 ≤ W.heap.size := by
  obtain ⟨ρ, -, -, h3⟩ := h
  exact Nat.le_trans h0 h3.below.size
theorem Rel.then {n0 : Nat} {ρ0 ρ : Rn} {H0 H H2 : Heap} {W0 W W2 : World} {tm2 : Tr Value} {a2 : Act} {wr wr2 : List Nat} (k : Okay P n0 ρ0 H0 W0 H wr ρ W) (h : Rel P n0 ρ H W tm2 H2 wr2 a2 W2) : Rel P n0 ρ0 H0 W0 tm2 H2 (wr ++ wr2) a2 W2 := by
  obtain ⟨ρ', h1, h2, h3⟩ := h
  exact ⟨ρ', h1, h2, k.trans h3⟩
set_option maxHeartbeats 1000000 in
theorem exec_ok (hN : namesOk P = true) {n0 : Nat} {call : CallF} (hc : CallOk P n0 call) (hm : P.follows .mixedOrders = true) {ρ0 : Rn} {H0 : Heap} {W0 : World} (h0 : n0 ≤ W0.heap.size) :
    ∀ (n : Nat) {c : Code} {tk : Nat} {tm : Tr Value} {H : Heap} {wr : List Nat} {s : ESt}, exec P call n c tk tm H wr = some s → ∀ {a : Act} {W : World}, Rel P n0 ρ0 H0 W0 tm H wr a W → c.wp P (Post P n0 ρ0 H0 W0 s) a W := by
  intro n
  induction n using Nat.strongRecOn with
  | ind n0' ihs =>
    intro c tk tm H wr s hs a W hr
    obtain _ | n := n0'
    · simp [exec] at hs
    have ih := fun {c : Code} {tk : Nat} {tm : Tr Value} {H : Heap} {wr : List Nat} {s : ESt} => ihs n (Nat.lt_succ_self n) (c := c) (tk := tk) (tm := tm) (H := H) (wr := wr) (s := s)
    cases c with
    | skip => simp only [exec, Option.some.injEq] at hs; subst hs; exact wp_skip ⟨rfl, hr⟩
    | label l => simp only [exec, Option.some.injEq] at hs; subst hs; exact wp_label ⟨rfl, hr⟩
    | exit id => simp only [exec, Option.some.injEq] at hs; subst hs; exact wp_exit ⟨rfl, hr⟩
    | ret => simp only [exec, Option.some.injEq] at hs; subst hs; exact wp_ret ⟨rfl, hr⟩
    | region id ops draw =>
      obtain ⟨ρ, k1, k2, k3⟩ := hr
      have hge : n0 ≤ W.heap.size := Nat.le_trans h0 k3.below.size
      cases draw with
      | false =>
        simp only [exec] at hs
        split at hs
        · rename_i tm' H' wr' hrun
          cases hs
          refine wp_region (runL_all hN hc hge (fun a' W' hr' => ?_) hrun ⟨ρ, k1, k2, Okay.refl k3.hr⟩)
          exact ⟨rfl, (Rel.then k3 hr').addw⟩
        · cases hs
      | true =>
        simp only [exec] at hs
        split at hs
        · rename_i tm' H' wr' hrun
          cases hs
          refine drawR_ok hN hc hm hrun k1 k2 k3.hr hge (fun c a w hq => by cases hq.1) fun a' W' hr' => ?_
          exact ⟨rfl, (Rel.then k3 hr').addw⟩
        · cases hs
    | seq x y =>
      simp only [exec] at hs
      cases hx : exec P call n x tk tm H wr with
      | none => rw [hx] at hs; cases hs
      | some r =>
        obtain ⟨ex, tk', tm', H', wr'⟩ := r
        rw [hx] at hs
        refine wp_seq (wp_mono (ih hx hr) ?_)
        rintro e a' W' ⟨he, hr'⟩
        cases ex with
        | normal =>
          simp only at he hs
          subst he
          exact ih hs hr'
        | exit id => simp only [Option.some.injEq] at hs he; subst hs; subst he; exact ⟨rfl, hr'⟩
        | ret => simp only [Option.some.injEq] at hs he; subst hs; subst he; exact ⟨rfl, hr'⟩
    | cond cc x y =>
      simp only [exec] at hs
      have hv : ∀ b, okx cc = true → sev tm cc = .bool b → a.eval cc = .bool b := fun b hk e => by
        obtain ⟨ρ, k1, -, -⟩ := hr
        have := sev_rel k1 hk
        rw [e] at this
        exact this.lit_eq rfl
      split at hs
      · rename_i hk he
        exact wp_cond_true (hv true hk he) (ih hs hr)
      · rename_i hk he
        exact wp_cond_false (hv false hk he) (ih hs hr)
      · cases hs
    | block id x =>
      simp only [exec] at hs
      cases hx : exec P call n x tk tm H wr with
      | none => rw [hx] at hs; cases hs
      | some r =>
        obtain ⟨ex, tk', tm', H', wr'⟩ := r
        rw [hx] at hs
        refine wp_block (wp_mono (ih hx hr) ?_)
        rintro e a' W' ⟨he, hr'⟩
        cases ex with
        | normal => simp only [Option.some.injEq] at hs he; subst hs; subst he; exact ⟨rfl, hr'⟩
        | exit k =>
          simp only at hs he
          subst he
          split at hs
          · rename_i hk
            have hk := (beq_of _ _).1 hk
            cases hs
            subst hk
            simp only [Ex.of, Exit.inBlock, if_true]
            exact ⟨rfl, hr'⟩
          · rename_i hk
            cases hs
            have hne : ¬ k = id := fun e => by subst e; simp [Nat.beq_refl] at hk
            simp only [Ex.of, Exit.inBlock, hne, if_false]
            exact ⟨rfl, hr'⟩
        | ret => simp only [Option.some.injEq] at hs he; subst hs; subst he; exact ⟨rfl, hr'⟩
    | loop x =>
      refine wp_loop_rounds (n + 1) ?_
      have key : ∀ (m : Nat), m ≤ n + 1 → ∀ {tk : Nat} {tm : Tr Value} {H : Heap} {wr : List Nat} {a : Act} {W : World}, exec P call m (.loop x) tk tm H wr = some s → Rel P n0 ρ0 H0 W0 tm H wr a W → Code.rounds P x (Post P n0 ρ0 H0 W0 s) m a W := by
        intro m
        induction m with
        | zero => intro _ tk tm H wr a W hs _; simp [exec] at hs
        | succ m ihm =>
          intro hle tk tm H wr a W hs hr
          simp only [exec] at hs
          cases hx : exec P call m x tk tm H wr with
          | none => rw [hx] at hs; cases hs
          | some r =>
            obtain ⟨ex, tk', tm', H', wr'⟩ := r
            rw [hx] at hs
            rw [rounds_succ]
            refine wp_mono (ihs m (by omega) hx hr) ?_
            rintro e a' W' ⟨he, hr'⟩
            cases ex with
            | normal =>
              simp only at he hs
              subst he
              exact ihm (by omega) hs hr'
            | exit id => simp only [Option.some.injEq] at hs he; subst hs; subst he; exact ⟨rfl, hr'⟩
            | ret => simp only [Option.some.injEq] at hs he; subst hs; subst he; exact ⟨rfl, hr'⟩
      exact key (n + 1) (Nat.le_refl _) hs hr
    | _ => simp [exec] at hs

end
end Go.Proofs.YtfnphhmcbdoojaaGreatDoor.Sim
