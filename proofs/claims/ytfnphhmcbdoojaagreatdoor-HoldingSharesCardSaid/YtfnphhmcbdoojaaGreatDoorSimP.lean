/- Symbolic run of calls. No program is named here. -/
import Derived.Test.YtfnphhmcbdoojaaGreatDoorSimO
set_option linter.unusedSimpArgs false
namespace Go.Proofs.YtfnphhmcbdoojaaGreatDoor.Sim
open Go Go.RowKit Go.WideShapes

noncomputable section
variable {P : Program}
/-- All names in a value are known. -/
def vin (dom : Nat → Bool) : Nat → Value → Bool
  | 0, _ => false
  | d + 1, v => match v with
    | .pointer (some a) => dom a.block
    | .slice (some a) _ _ => dom a.block
    | .map (some b) => dom b
    | .func _ as cs => as.toList.all (vin dom d) && cs.toList.all (vin dom d)
    | .agg cs => cs.toList.all (vin dom d)
    | .tuple cs => cs.toList.all (vin dom d)
    | _ => true
theorem VR.restrict {ρ ρ2 : Rn} {dom : Nat → Bool} (hd : ∀ b L, ρ b = some L → dom b = true → ρ2 b = some L) {v v' : Value} (h : VR ρ v v') : ∀ {d : Nat}, vin dom d v = true → VR ρ2 v v' := by
  induction h with
  | lit h => exact fun _ => .lit h
  | ptr h => intro d hv; cases d <;> simp [vin] at hv; exact .ptr (hd _ _ h hv)
  | slice h hc => intro d hv; cases d <;> simp [vin] at hv; exact .slice (hd _ _ h hv) hc
  | sliceU h h1 h2 h3 => intro d hv; cases d <;> simp [vin] at hv; exact .sliceU (hd _ _ h hv) h1 h2 h3
  | map h => intro d hv; cases d <;> simp [vin] at hv; exact .map (hd _ _ h hv)
  | func h1 _ h3 _ i1 i2 =>
    intro d hv
    cases d with
    | zero => simp [vin] at hv
    | succ d =>
      simp only [vin, Bool.and_eq_true] at hv
      exact .func h1 (fun i v v' a b => i1 i v v' a b (d := d) (all_get hv.1 a)) h3 (fun i v v' a b => i2 i v v' a b (d := d) (all_get hv.2 a))
  | agg h1 _ i1 =>
    intro d hv
    cases d with
    | zero => simp [vin] at hv
    | succ d => exact .agg h1 (fun i v v' a b => i1 i v v' a b (d := d) (all_get hv a))
  | tuple h1 _ i1 =>
    intro d hv
    cases d with
    | zero => simp [vin] at hv
    | succ d => exact .tuple h1 (fun i v v' a b => i1 i v v' a b (d := d) (all_get hv a))
def oin (dom : Nat → Bool) : SObj → Bool
  | .cells xs _ => xs.all (vin dom 9)
  | .map es _ => es.all fun e => vin dom 9 e.2.1
  | .dead => true
theorem OR.restrict {ρ ρ2 : Rn} {dom : Nat → Bool} (hd : ∀ b L, ρ b = some L → dom b = true → ρ2 b = some L) {W : World} {L : Loc} {o : SObj} (h : OR P ρ W L o) (hi : oin dom o = true) : OR P ρ2 W L o := by
  cases o with
  | cells xs t =>
    obtain ⟨h0, cs, h1, h2, h3, h4⟩ := h
    refine ⟨h0, cs, h1, h2, h3, fun i v hv => ?_⟩
    obtain ⟨v', a, b⟩ := h4 i v hv
    exact ⟨v', a, b.restrict hd (List.all_eq_true.1 hi v (List.mem_of_getElem? hv))⟩
  | map es k =>
    obtain ⟨fs, h1, h2, h3⟩ := h
    refine ⟨fs, h1, h2, fun i e f a b => ?_⟩
    obtain ⟨x, y, z⟩ := h3 i e f a b
    exact ⟨x, y.restrict hd (List.all_eq_true.1 hi e (List.mem_of_getElem? a)), z⟩
  | dead => trivial

/-- New names in a value, and what is reached from them. -/
def vnames (bd : Nat) : Nat → Value → List Nat → List Nat
  | 0, _, acc => acc
  | d + 1, v, acc => match v with
    | .pointer (some a) => match nw bd a.block with
      | true => a.block :: acc
      | false => acc
    | .slice (some a) _ _ => match nw bd a.block with
      | true => a.block :: acc
      | false => acc
    | .map (some b) => match nw bd b with
      | true => b :: acc
      | false => acc
    | .func _ as cs => as.toList.foldr (vnames bd d) (cs.toList.foldr (vnames bd d) acc)
    | .agg cs => cs.toList.foldr (vnames bd d) acc
    | .tuple cs => cs.toList.foldr (vnames bd d) acc
    | _ => acc
def onames (bd : Nat) (o : SObj) (acc : List Nat) : List Nat :=
  match o with
  | .cells xs _ => xs.foldr (vnames bd 9) acc
  | .map es _ => es.foldr (fun e acc => vnames bd 9 e.2.1 acc) acc
  | .dead => acc
def reachN (bd : Nat) (H : Heap) : Nat → List Nat → List Nat → List Nat
  | 0, _, acc => acc
  | _ + 1, [], acc => acc
  | n + 1, b :: w, acc => match acc.contains b with
    | true => reachN bd H n w acc
    | false => match hget H b with
      | some o => reachN bd H n (onames bd o w) (b :: acc)
      | none => reachN bd H n w acc
def wnames (bd : Nat) (H : Heap) : List Nat → List Nat → List Nat
  | [], acc => acc
  | b :: r, acc => match hget H b with
    | some o => wnames bd H r (onames bd o acc)
    | none => wnames bd H r acc
/-- What a call leaves: old blocks, and those of its own that are live. -/
def sweep (bd : Nat) (live : List Nat) : Option Nat → Heap → Heap → Option Heap
  | _, [], [] => some []
  | _, [], _ :: _ => none
  | pr, (b, o) :: r, H0 => match below pr b with
    | false => none
    | true => match isHead b H0 with
      | true => match sweep bd live (some b) r H0.tail with
        | some H' => some ((b, o) :: H')
        | none => none
      | false => match nw bd b with
        | false => none
        | true => match live.contains b with
          | true => match sweep bd live (some b) r H0 with
            | some H' => some ((b, o) :: H')
            | none => none
          | false => sweep bd live (some b) r H0
  where
  below : Option Nat → Nat → Bool
    | none, _ => true
    | some p, b => Nat.ble (Nat.succ b) p
  isHead (b : Nat) : Heap → Bool
    | (c, _) :: _ => Nat.beq b c
    | [] => false
theorem hget_none_of {b : Nat} : ∀ {H : Heap}, (∀ c ∈ H.map (·.1), c ≠ b) → hget H b = none
  | [], _ => rfl
  | (c, o) :: r, h => by
    have hc : Nat.beq c b = false := by
      cases hh : Nat.beq c b with
      | false => rfl
      | true => exact absurd ((beq_of _ _).1 hh) (h c (by simp))
    simp only [hget_nil, hget_eq, hc]
    exact hget_none_of fun d hd => h d (by simp at hd ⊢; exact .inr hd)
theorem sweep_low {bd : Nat} {live : List Nat} : ∀ {H H0 H' : Heap} {p : Nat}, sweep bd live (some p) H H0 = some H' → ∀ c ∈ H.map (·.1), c < p
  | [], _, _, _, _, c, hc => by simp at hc
  | (b, o) :: r, H0, H', p, h, c, hc => by
    have hb : b < p ∧ ∃ H1 H2, sweep bd live (some b) r H1 = some H2 := by
      simp only [sweep] at h
      split at h
      · cases h
      · rename_i hlt
        refine ⟨Nat.le_of_ble_eq_true hlt, ?_⟩
        split at h
        · split at h
          · exact ⟨_, _, by assumption⟩
          · cases h
        · split at h
          · cases h
          · split at h
            · split at h
              · exact ⟨_, _, by assumption⟩
              · cases h
            · exact ⟨_, _, h⟩
    simp only [List.map_cons, List.mem_cons] at hc
    rcases hc with rfl | hc
    · exact hb.1
    · obtain ⟨H1, H2, h2⟩ := hb.2
      exact Nat.lt_trans (sweep_low h2 c hc) hb.1
theorem hget_cons {c b : Nat} {o : SObj} {r : Heap} : hget ((c, o) :: r) b = if c = b then some o else hget r b := by
  simp only [hget_nil, hget_eq]
  cases hh : Nat.beq c b with
  | true => rw [if_pos ((beq_of _ _).1 hh)]
  | false => rw [if_neg fun e => by subst e; simp [Nat.beq_refl] at hh]
theorem hget_off {c b : Nat} {o : SObj} {r : Heap} (h : c ≠ b) : hget ((c, o) :: r) b = hget r b := by rw [hget_cons, if_neg h]
theorem hget_at {b : Nat} {o : SObj} {r : Heap} : hget ((b, o) :: r) b = some o := by rw [hget_cons, if_pos rfl]
/-- What is not swept away stays; what is swept away is new and not live, and not old. -/
theorem sweep_ok {bd : Nat} {live : List Nat} : ∀ {H H0 H' : Heap} {pr : Option Nat}, sweep bd live pr H H0 = some H' → ∀ b, (hget H' b = hget H b) ∨ (hget H' b = none ∧ nw bd b = true ∧ live.contains b = false ∧ hget H0 b = none)
  | [], [], H', pr, h, b => by
    simp only [sweep, Option.some.injEq] at h
    subst h
    exact .inl rfl
  | [], _ :: _, H', pr, h, b => by simp [sweep] at h
  | (c, o) :: r, H0, H', pr, h, b => by
    simp only [sweep] at h
    split at h
    · cases h
    · split at h
      · rename_i hh
        split at h
        · rename_i H2 h2
          cases h
          by_cases hcb : c = b
          · subst hcb
            exact .inl (by rw [hget_at, hget_at])
          · rw [hget_off hcb, hget_off hcb]
            rcases sweep_ok h2 b with k | ⟨k1, k2, k3, k4⟩
            · exact .inl k
            · refine .inr ⟨k1, k2, k3, ?_⟩
              match H0, hh, k4 with
              | (d, o2) :: s, hh, k4 =>
                have : c = d := (beq_of _ _).1 hh
                subst this
                rw [hget_off hcb]
                exact k4
        · cases h
      · rename_i hh
        split at h
        · cases h
        · rename_i hn
          split at h
          · split at h
            · rename_i H2 h2
              cases h
              by_cases hcb : c = b
              · subst hcb
                exact .inl (by rw [hget_at, hget_at])
              · rw [hget_off hcb, hget_off hcb]
                exact sweep_ok h2 b
            · cases h
          · rename_i hl
            by_cases hcb : c = b
            · subst hcb
              have low := sweep_low h
              have e1 : hget r c = none := hget_none_of fun d hd => Nat.ne_of_lt (low d hd)
              rcases sweep_ok h c with k | ⟨k1, -, -, k4⟩
              · rw [e1] at k
                have e0 : hget H0 c = none := by
                  cases hg : hget H0 c with
                  | none => rfl
                  | some w =>
                    have := sweep_old h c (by rw [hg]; rfl)
                    rw [e1] at this
                    cases this
                exact .inr ⟨k, hn, by simpa using hl, e0⟩
              · exact .inr ⟨k1, hn, by simpa using hl, k4⟩
            · rw [hget_off hcb]
              exact sweep_ok h b
  where
  sweep_old {bd : Nat} {live : List Nat} : ∀ {H H0 H' : Heap} {pr : Option Nat}, sweep bd live pr H H0 = some H' → ∀ b, (hget H0 b).isSome = true → (hget H b).isSome = true
    | [], [], H', pr, h, b, hb => by simp [hget_nil, hget_eq] at hb
    | [], _ :: _, H', pr, h, b, hb => by simp [sweep] at h
    | (c, o) :: r, H0, H', pr, h, b, hb => by
      by_cases hcb : c = b
      · subst hcb
        rw [hget_at]
        rfl
      · rw [hget_off hcb]
        simp only [sweep] at h
        split at h
        · cases h
        · split at h
          · rename_i hh
            split at h
            · rename_i H2 h2
              match H0, hh, hb, h2 with
              | (d, o2) :: s, hh, hb, h2 =>
                have : c = d := (beq_of _ _).1 hh
                subst this
                rw [hget_off hcb] at hb
                exact sweep_old h2 b hb
            · cases h
          · split at h
            · cases h
            · split at h
              · split at h
                · rename_i H2 h2
                  exact sweep_old h2 b hb
                · cases h
              · exact sweep_old h b hb
/-- Names that stay. -/
def stays (bd : Nat) (live : List Nat) (b : Nat) : Bool :=
  match nw bd b with
  | true => live.contains b
  | false => true
/-- Blocks that the call has made or written hold only names that stay. -/
def okAll (bd : Nat) (live : List Nat) (H : Heap) : List Nat → Bool
  | [] => true
  | b :: r => match hget H b with
    | some o => match oin (stays bd live) o with
      | true => okAll bd live H r
      | false => false
    | none => okAll bd live H r
theorem okAll_ok {bd : Nat} {live : List Nat} {H : Heap} : ∀ {l : List Nat}, okAll bd live H l = true → ∀ b ∈ l, ∀ o, hget H b = some o → oin (stays bd live) o = true
  | [], _, b, hb, _, _ => by simp at hb
  | c :: r, h, b, hb, o, ho => by
    simp only [okAll] at h
    rcases List.mem_cons.1 hb with rfl | hb
    · rw [ho] at h
      simp only at h
      split at h
      · assumption
      · cases h
    · split at h
      · split at h
        · exact okAll_ok h b hb o ho
        · cases h
      · exact okAll_ok h b hb o ho
/-- New blocks that stay are live. -/
def gc (bd : Nat) (H0 : Heap) (v : Value) (wr : List Nat) (H : Heap) : Option Heap :=
  gc2 bd H0 v wr H (reachN bd H 100000 (vnames bd 9 v (wnames bd H wr [])) [])
  where
  gc2 (bd : Nat) (H0 : Heap) (v : Value) (wr : List Nat) (H : Heap) (live : List Nat) : Option Heap :=
    match vin (stays bd live) 9 v, okAll bd live H live, okAll bd live H wr with
    | true, true, true => sweep bd live none H H0
    | _, _, _ => none
theorem gc_ok {n0 : Nat} {bd : Nat} {H0 H H' : Heap} {v v' : Value} {wr : List Nat} (hs : gc bd H0 v wr H = some H') {ρ0 ρ1 : Rn} {W0 W : World} (h0 : HR P n0 ρ0 H0 W0) (k : Okay P n0 ρ0 H0 W0 H wr ρ1 W) (hv : VR ρ1 v v') :
    ∃ ρ2, VR ρ2 v v' ∧ Okay P n0 ρ0 H0 W0 H' wr ρ2 W := by
  unfold gc at hs
  generalize reachN bd H 100000 (vnames bd 9 v (wnames bd H wr [])) [] = live at hs
  unfold gc.gc2 at hs
  split at hs
  · rename_i c1 c2 c3
    have sw := sweep_ok hs
    have low : ∀ b, (hget H0 b).isSome = true → hget H' b = hget H b := fun b hb => by
      rcases sw b with h | ⟨-, -, -, h⟩
      · exact h
      · rw [h] at hb; cases hb
    have sub : ∀ b o, hget H' b = some o → hget H b = some o := fun b o hb => by
      rcases sw b with h | ⟨h, -⟩
      · rw [← h, hb]
      · rw [h] at hb; cases hb
    have st : ∀ b, stays bd live b = true → hget H' b = hget H b := fun b hb => by
      rcases sw b with h | ⟨-, h2, h3, -⟩
      · exact h
      · unfold stays at hb
        rw [h2] at hb
        simp only at hb
        rw [h3] at hb
        cases hb
    have hρ : ∀ b L, ρ1 b = some L → (hget H' b).isSome = true → (fun q => if (hget H' q).isSome = true then ρ1 q else none) b = some L := fun b L h1 h2 => by simp [h2, h1]
    have hρ' : ∀ b L, ρ1 b = some L → stays bd live b = true → (fun q => if (hget H' q).isSome = true then ρ1 q else none) b = some L := fun b L h1 h2 => hρ b L h1 (by rw [st b h2]; exact k.hr.dom b L h1)
    have hx : Ext ρ0 (fun q => if (hget H' q).isSome = true then ρ1 q else none) := fun b L hL => by
      have h1 := h0.dom b L hL
      have h3 := k.ext _ _ hL
      have h4 := k.hr.dom b L h3
      exact hρ b L h3 (by rw [low b h1]; exact h4)
    refine ⟨fun q => if (hget H' q).isSome = true then ρ1 q else none, hv.restrict hρ' c1, hx, ⟨?_, ?_, ?_⟩, k.below, ?_, ?_⟩
    · intro b L hb
      by_cases hq : (hget H' b).isSome = true
      · exact hq
      · simp [hq] at hb
    · intro b o hb
      have hbs : (hget H' b).isSome = true := by rw [hb]; rfl
      obtain ⟨L, h1, h2, h3, h4⟩ := k.hr.obj b o (sub b o hb)
      refine ⟨L, hρ b L h1 hbs, h2, h3, ?_⟩
      by_cases hw : b ∈ wr
      · exact h4.restrict hρ' (okAll_ok c3 b hw o (sub b o hb))
      · cases hg : hget H0 b with
        | none =>
          have hl : b ∈ live := newLive hs b hbs hg
          exact h4.restrict hρ' (okAll_ok c2 b hl o (sub b o hb))
        | some o0 =>
          have e0 := k.fr1 b o0 hg hw
          rw [sub b o hb] at e0
          cases e0
          obtain ⟨L0, m1, m2, m3, m4⟩ := h0.obj b o hg
          have := k.ext _ _ m1
          rw [h1] at this
          cases this
          cases hd : isDead o with
          | true => cases o <;> first | trivial | cases hd
          | false => exact m4.mono hx (k.fr b o L hg hd hw m1).2
    · intro b b' o o' L L' hb hb' hd hd' hL hL' he
      have e1 : ρ1 b = some L := by
        by_cases hq : (hget H' b).isSome = true
        · simpa [hq] using hL
        · simp [hq] at hL
      have e2 : ρ1 b' = some L' := by
        by_cases hq : (hget H' b').isSome = true
        · simpa [hq] using hL'
        · simp [hq] at hL'
      exact k.hr.inj b b' o o' L L' (sub b o hb) (sub b' o' hb') hd hd' e1 e2 he
    · intro b o L hb hd hn hL
      obtain ⟨x, y⟩ := k.fr b o L hb hd hn hL
      exact ⟨by rw [low b (by rw [hb]; rfl)]; exact x, y⟩
    · intro b o hb hn
      rw [low b (by rw [hb]; rfl)]
      exact k.fr1 b o hb hn
  · cases hs
  where
  newLive {bd : Nat} {live : List Nat} : ∀ {H H0 H' : Heap} {pr : Option Nat}, sweep bd live pr H H0 = some H' → ∀ b, (hget H' b).isSome = true → hget H0 b = none → b ∈ live
    | [], [], H', pr, h, b, hb, _ => by
      simp only [sweep, Option.some.injEq] at h
      subst h
      simp [hget_nil, hget_eq] at hb
    | [], _ :: _, H', pr, h, b, hb, _ => by simp [sweep] at h
    | (c, o) :: r, H0, H', pr, h, b, hb, h0 => by
      simp only [sweep] at h
      split at h
      · cases h
      · split at h
        · rename_i hh
          split at h
          · rename_i H2 h2
            cases h
            match H0, hh, h0, h2 with
            | (d, o2) :: s, hh, h0, h2 =>
              have : c = d := (beq_of _ _).1 hh
              subst this
              by_cases hcb : c = b
              · subst hcb
                rw [hget_at] at h0
                cases h0
              · rw [hget_off hcb] at h0 hb
                exact newLive h2 b hb h0
          · cases h
        · split at h
          · cases h
          · split at h
            · rename_i hl
              split at h
              · rename_i H2 h2
                cases h
                by_cases hcb : c = b
                · subst hcb
                  simpa using hl
                · rw [hget_off hcb] at hb
                  exact newLive h2 b hb h0
              · cases h
            · exact newLive h b hb h0

end
end Go.Proofs.YtfnphhmcbdoojaaGreatDoor.Sim
