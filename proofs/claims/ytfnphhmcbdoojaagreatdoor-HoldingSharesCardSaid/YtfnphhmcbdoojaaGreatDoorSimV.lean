/- Symbolic run: finding a key among the entries of a map. No program is named here. -/
import Derived.Test.YtfnphhmcbdoojaaGreatDoorSimB
set_option linter.unusedSimpArgs false
namespace Go.Proofs.YtfnphhmcbdoojaaGreatDoor.Sim
open Go Go.RowKit Go.WideShapes

noncomputable section
variable {P : Program}
theorem pv_bind {α β : Type} {f : α → Sem β} {b : β} : ∀ {s : Sem α}, pv P (s >>= f) = some b → ∃ a, pv P s = some a ∧ pv P (f a) = some b
  | .pure a, h => ⟨a, rfl, h⟩
  | .program k, h => by
    obtain ⟨a, h1, h2⟩ := pv_bind (s := k P) (f := f) h
    exact ⟨a, h1, h2⟩
  | .mark m k, h => by
    obtain ⟨a, h1, h2⟩ := pv_bind (s := k) (f := f) h
    exact ⟨a, h1, h2⟩
  | .load .., h => by cases h
  | .store .., h => by cases h
  | .new .., h => by cases h
  | .shape .., h => by cases h
  | .freeze .., h => by cases h
  | .frozen .., h => by cases h
  | .getObj .., h => by cases h
  | .setObj .., h => by cases h
  | .choose .., h => by cases h
  | .sys .., h => by cases h
  | .halt .., h => by cases h
/-- Entries with the names of the run. -/
def ents (es : List (Value × Value × Nat)) : List MapEntry := es.map fun e => { key := e.1, val := e.2.1, born := e.2.2 }
/-- Lists of entries. -/
def EL (ρ : Rn) (es : List (Value × Value × Nat)) (fs : List MapEntry) : Prop := ER ρ es fs
theorem EL.cons_inv {ρ : Rn} {e : Value × Value × Nat} {es : List (Value × Value × Nat)} {fs : List MapEntry} (h : EL ρ (e :: es) fs) : ∃ f gs, fs = f :: gs ∧ f.key = e.1 ∧ VR ρ e.2.1 f.val ∧ f.born = e.2.2 ∧ EL ρ es gs := by
  obtain ⟨hl, h⟩ := h
  match fs, hl with
  | f :: gs, hl =>
    obtain ⟨h1, h2, h3⟩ := h 0 e f rfl rfl
    exact ⟨f, gs, rfl, h1, h2, h3, by simpa using hl, fun i a b ha hb => h (i + 1) a b (by simpa using ha) (by simpa using hb)⟩
/-- What is found has the same number. -/
def FoundR (ρ : Rn) (r : Option (Nat × Value)) (r' : Option (Nat × Value)) : Prop :=
  (r = none ∧ r' = none) ∨ ∃ i v v', r = some (i, v) ∧ r' = some (i, v') ∧ VR ρ v v'
theorem findNow_rel {ρ : Rn} {kd : TypeDesc} {k : Value} : ∀ {es : List (Value × Value × Nat)} {fs : List MapEntry} {i : Nat}, EL ρ es fs →
    (Instr.findNow kd k (ents es) i = none ∧ Instr.findNow kd k fs i = none) ∨ ∃ r r', Instr.findNow kd k (ents es) i = some r ∧ Instr.findNow kd k fs i = some r' ∧ FoundR ρ r r'
  | [], fs, i, h => by
    have : fs = [] := by simpa using h.1.symm
    subst this
    exact .inr ⟨none, none, rfl, rfl, .inl ⟨rfl, rfl⟩⟩
  | e :: es, fs, i, h => by
    obtain ⟨f, gs, rfl, h1, h2, h3, h4⟩ := h.cons_inv
    simp only [ents, List.map_cons, Instr.findNow, h1]
    cases hs : Instr.sameNow kd k e.1 with
    | none => exact .inl ⟨rfl, rfl⟩
    | some b =>
      cases b with
      | true => exact .inr ⟨_, _, rfl, rfl, .inr ⟨i, _, _, rfl, rfl, h2⟩⟩
      | false => exact findNow_rel h4
theorem findAsking_rel {ρ : Rn} {kt : TypeId} {k : Value} {W : World} : ∀ {es : List (Value × Value × Nat)} {fs : List MapEntry} {i : Nat} {r : Option (Nat × Value)}, EL ρ es fs → pv P (Instr.findAsking kt k (ents es) i) = some r → ∃ r', (Instr.findAsking kt k fs i).run P W = .ok r' W ∧ FoundR ρ r r'
  | [], fs, i, r, h, hp => by
    have : fs = [] := by simpa using h.1.symm
    subst this
    simp only [ents, List.map_nil, Instr.findAsking] at hp
    cases hp
    exact ⟨none, rfl, .inl ⟨rfl, rfl⟩⟩
  | e :: es, fs, i, r, h, hp => by
    obtain ⟨f, gs, rfl, h1, h2, h3, h4⟩ := h.cons_inv
    simp only [ents, List.map_cons, Instr.findAsking] at hp ⊢
    obtain ⟨b, g1, g2⟩ := pv_bind hp
    rw [h1, Sem.run_bind, pv_run g1 W]
    simp only [Result.andThen]
    cases b with
    | true =>
      simp only [if_true] at g2 ⊢
      cases g2
      exact ⟨_, rfl, .inr ⟨i, _, _, rfl, rfl, h2⟩⟩
    | false =>
      simp only [Bool.false_eq_true, if_false] at g2 ⊢
      exact findAsking_rel h4 g2
theorem findKey_rel {ρ : Rn} {kt : TypeId} {k : Value} {W : World} {es : List (Value × Value × Nat)} {fs : List MapEntry} {r : Option (Nat × Value)} (h : EL ρ es fs) (hp : pv P (Instr.findKey kt k (ents es)) = some r) : ∃ r', (Instr.findKey kt k fs).run P W = .ok r' W ∧ FoundR ρ r r' := by
  unfold Instr.findKey at hp ⊢
  obtain ⟨d, g1, g2⟩ := pv_bind hp
  rw [Sem.run_bind, pv_run g1 W]
  simp only [Result.andThen]
  rcases findNow_rel (kd := d) (k := k) (i := 0) h with ⟨e1, e2⟩ | ⟨q, q', e1, e2, e3⟩
  · rw [e1] at g2
    rw [e2]
    exact findAsking_rel h g2
  · rw [e1] at g2
    rw [e2]
    cases g2
    exact ⟨q', rfl, e3⟩
end
end Go.Proofs.YtfnphhmcbdoojaaGreatDoor.Sim
