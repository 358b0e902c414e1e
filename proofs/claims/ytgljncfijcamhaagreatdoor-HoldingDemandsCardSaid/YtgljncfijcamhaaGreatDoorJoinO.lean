/- strings.Join by its contract, in a run with names. -/
import Derived.Test.YtgljncfijcamhaaGreatDoorSim2
import Derived.Test.YtgljncfijcamhaaGreatDoorShelf
namespace Go.Proofs.YtgljncfijcamhaaGreatDoor
open Go Go.RowKit Go.WideShapes
namespace Sim

noncomputable section

/-- The strings of a row. -/
def strsOf : List Value → Option (List ByteArray)
  | [] => some []
  | v :: r => match v, strsOf r with
    | .string s, some l => some (s :: l)
    | _, _ => none
theorem strsOf_ok {ρ : Rn} : ∀ {xs ys : List Value} {l : List ByteArray}, strsOf xs = some l → LR ρ xs ys → ys = l.map Value.string
  | [], ys, l, h, k => by
    simp only [strsOf, Option.some.injEq] at h
    subst h
    have := k.1
    simp at this
    simpa using List.length_eq_zero_iff.1 this.symm
  | v :: r, ys, l, h, k => by
    match ys, k with
    | [], k => have := k.1; simp at this
    | y :: ys, k =>
      have e0 := k.2 0 _ _ rfl rfl
      have k2 : LR ρ r ys := ⟨by have := k.1; simpa using this, fun i v v' a b => k.2 (i + 1) v v' (by simpa using a) (by simpa using b)⟩
      clear k
      simp only [strsOf] at h
      cases hr : strsOf r with
      | none => rw [hr] at h; cases v <;> simp at h
      | some l2 =>
        rw [hr] at h
        cases v <;> simp at h
        subst h
        rw [strsOf_ok hr k2, e0.lit_eq rfl]
        rfl
def joined (l : List ByteArray) (sep : ByteArray) : List UInt8 := Lib.join (l.map (·.data.toList)) sep.data.toList
def capOk (n c : Nat) : Bool := match Nat.beq c UNK with
  | true => true
  | false => Nat.ble n c
def sjoin (bs : List Value) (H : Heap) : Option Value :=
  match bs with
  | [.slice (some ⟨b, o, none⟩) n c, .string sep] => match hget H b, capOk n c with
    | some (.cells xs _), true => match strsOf ((xs.drop o).take n), Nat.ble (o + n) xs.length with
      | some l, true => match Nat.ble l.length 140737488355328, Nat.ble (joined l sep).length 140737488355328 with
        | true, true => some (.string ⟨(joined l sep).toArray⟩)
        | _, _ => none
      | _, _ => none
    | _, _ => none
  | _ => none
def orcJoin : Orc := fun f bs H => match Nat.beq f 79 with
  | true => sjoin bs H
  | false => none
theorem orcJoin_ok : OrcOk Tryz.prog orcJoin := by
  intro f bs H v hs
  unfold orcJoin at hs
  split at hs
  · rename_i hf
    have hf := (beq_of _ _).1 hf
    subst hf
    unfold sjoin at hs
    split at hs
    · rename_i b o n c sep
      split at hs
      · rename_i xs ty hb hcap
        split at hs
        · rename_i l hl hfit
          split at hs
          · rename_i h1 h2
            cases hs
            refine ⟨rfl, fun n0 ρ W args hr hH h0 => ?_⟩
            have hfit := Nat.le_of_ble_eq_true hfit
            obtain ⟨s', p', ha, q1, q2⟩ : ∃ s' p', args = #[s', p'] ∧ VR ρ (.slice (some ⟨b, o, none⟩) n c) s' ∧ VR ρ (.string sep) p' := by
              match hh : args.toList, hr with
              | [x, y], hr => exact ⟨x, y, by apply Array.ext'; exact hh, hr.2 0 _ _ rfl rfl, hr.2 1 _ _ rfl rfl⟩
              | [], hr => have := hr.1; simp at this
              | [_], hr => have := hr.1; simp at this
              | _ :: _ :: _ :: _, hr => have := hr.1; simp at this
            subst ha
            have e2 := q2.lit_eq rfl
            subst e2
            obtain ⟨L, hL, c', rfl, hc⟩ := q1.slice_inv
            obtain ⟨ys, k1, k2, k3⟩ := hH.cells hb hL o n hfit
            have hy := strsOf_ok hl k1
            subst hy
            have hn : l.length = n := by simpa using k2
            subst hn
            obtain ⟨L2, m1, -, m3, -⟩ := hH.obj b _ hb
            rw [hL] at m1
            cases m1
            have hcap' : l.length ≤ c' := by
              rcases hc with ⟨hu, rfl⟩ | ⟨-, hu, -⟩
              · unfold capOk at hcap
                split at hcap
                · rename_i e
                  exact absurd ((beq_of _ _).1 e) hu
                · exact Nat.le_of_ble_eq_true hcap
              · exact hu
            refine (Tryz.strings_Join L.x (L.s + o) c' l sep W (fun j x hj => ?_) m3 (Nat.le_of_ble_eq_true h1) hcap' (Nat.le_of_ble_eq_true h2)).mono ?_
            · have := k3 j (.string x) (by simp [hj])
              simpa [add_plain] using this
            · rintro e W' ⟨rfl, hb⟩
              exact ⟨hb, rfl⟩
          · cases hs
        · cases hs
      · cases hs
    · cases hs
  · cases hs

end
end Sim
end Go.Proofs.YtgljncfijcamhaaGreatDoor
