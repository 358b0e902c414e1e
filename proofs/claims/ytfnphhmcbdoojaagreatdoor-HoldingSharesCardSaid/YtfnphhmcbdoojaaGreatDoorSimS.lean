/- Symbolic run: bytes as strings. No program is named here. -/
import Derived.Test.YtfnphhmcbdoojaaGreatDoorSimI
import Derived.Laws.BytesString
set_option linter.unusedSimpArgs false
namespace Go.Proofs.YtfnphhmcbdoojaaGreatDoor.Sim
open Go Go.RowKit Go.WideShapes

noncomputable section
variable {P : Program}
def bytesOf : List Value → Option (List Int)
  | [] => some []
  | .int .u8 n :: r => match bytesOf r with
    | some l => some (n :: l)
    | none => none
  | _ => none
theorem bytesOf_eq : ∀ {vs : List Value} {ns : List Int}, bytesOf vs = some ns → vs = ns.map (Value.int .u8)
  | [], ns, h => by
    simp only [bytesOf, Option.some.injEq] at h
    subst h
    rfl
  | v :: r, ns, h => by
    unfold bytesOf at h
    split at h
    · rename_i e
      cases e
    · rename_i n r2 e
      cases e
      split at h
      · rename_i l hl
        cases h
        rw [bytesOf_eq hl]
        rfl
      · cases h
    · cases h
def sstr (P : Program) (s d : TypeId) (v : Value) (H : Heap) : Option Value :=
  match und P s, und P d with
  | some (.slice e), some .string => match und P e, v with
    | some (.int .u8), .slice none _ _ => some (.string ByteArray.empty)
    | some (.int .u8), .slice (some ⟨b, o, none⟩) n _ => match hget H b with
      | some (.cells xs _) => match Nat.ble (o + n) xs.length, bytesOf ((xs.drop o).take n) with
        | true, some ns => some (.string (ns.foldl (fun r n => r.push (UInt8.ofNat n.toNat)) ByteArray.empty))
        | _, _ => none
      | _ => none
    | _, _ => none
  | _, _ => none
theorem sstr_ok {n0 : Nat} {ρ : Rn} {H : Heap} {W : World} {s d : TypeId} {v v' u : Value} (hs : sstr P s d v H = some u) (hv : VR ρ v v') (h : HR P n0 ρ H W) : (convert s d v').run P W = .ok u W ∧ isLit u = true := by
  unfold sstr at hs
  simp only [inf_eq, und_eq] at hs
  split at hs
  · rename_i e he hd
    split at hs
    · rename_i l c hu
      cases hs
      have := hv.lit_eq rfl
      subst this
      rw [run_convert_bytes_string W s d e _ l c he hu hd]
      exact ⟨by simp [Conv.bytesToString], rfl⟩
    · rename_i b o n c hu
      obtain ⟨L, hL, c', rfl, -⟩ := hv.slice_inv
      split at hs
      · rename_i xs ty hb
        split at hs
        · rename_i ns hle hns
          cases hs
          obtain ⟨ys, k1, k2, k3⟩ := h.cells hb hL o n (Nat.le_of_ble_eq_true hle)
          have e1 := bytesOf_eq hns
          have e2 : ys = ns.map (Value.int .u8) := by
            rw [e1] at k1
            refine List.ext_getElem? fun i => ?_
            cases hi : (ns.map (Value.int .u8))[i]? with
            | none =>
              have hl := k1.1
              simp at hi hl ⊢
              omega
            | some v =>
              obtain ⟨v2, a1, a2⟩ := k1.get hi
              rw [a1]
              have : isLit v = true := by
                have := List.mem_of_getElem? hi
                obtain ⟨n, -, rfl⟩ := List.mem_map.1 this
                rfl
              rw [a2.lit_eq this]
          have hl := run_loadCells_list (P := P) W ⟨L.x, L.s + o, none⟩ ys k3
          rw [k2, e2] at hl
          rw [run_convert_bytes_string W s d e _ n c' he hu hd, run_bytesToString W _ n c' ns hl]
          exact ⟨rfl, rfl⟩
        · cases hs
      · cases hs
    · cases hs
  · cases hs
end
end Go.Proofs.YtfnphhmcbdoojaaGreatDoor.Sim
