/- Symbolic run: maps that are made and written. No program is named here. -/
import Derived.Test.YtfnphhmcbdoojaaGreatDoorSimW
set_option linter.unusedSimpArgs false
namespace Go.Proofs.YtfnphhmcbdoojaaGreatDoor.Sim
open Go Go.RowKit Go.WideShapes

noncomputable section
variable {P : Program}
def smakeMap (nm : Nat) (H : Heap) : Option (Value × Heap) :=
  match hget H nm with
  | none => some (.map (some nm), hins H nm (.map [] 0))
  | some _ => none
theorem smakeMap_ok {n0 : Nat} {ρ : Rn} {H H' : Heap} {W : World} {nm : Nat} {t : TypeId} {v : Value} (hs : smakeMap nm H = some (v, H')) (h : HR P n0 ρ H W) (h0 : n0 ≤ W.heap.size) :
    ∃ ρ' W' v', (Instr.makeMap t none).run P W = .ok v' W' ∧ VR ρ' v v' ∧ Okay P n0 ρ H W H' [] ρ' W' := by
  unfold smakeMap at hs
  split at hs
  · rename_i hn
    cases hs
    obtain ⟨ρ', k1, k2⟩ := h.alloc h0 hn (.map [] 0) (.map #[] 0) 0 0 fun ρ' _ => ⟨#[], World.alloc_heap_new W _, rfl, fun i a b ha => by simp at ha⟩
    exact ⟨ρ', _, .map (some W.heap.size), rfl, .map k1, k2⟩
  · cases hs
theorem EL.get {ρ : Rn} {es : List (Value × Value × Nat)} {fs : List MapEntry} (h : EL ρ es fs) {i : Nat} {e : Value × Value × Nat} (he : es[i]? = some e) : ∃ f, fs[i]? = some f ∧ f.key = e.1 ∧ VR ρ e.2.1 f.val ∧ f.born = e.2.2 := by
  have hi : i < fs.length := by have := (List.getElem?_eq_some_iff.1 he).1; have := h.1; omega
  exact ⟨fs[i], List.getElem?_eq_getElem hi, h.2 i e _ he (List.getElem?_eq_getElem hi)⟩
theorem EL.set {ρ : Rn} {es : List (Value × Value × Nat)} {fs : Array MapEntry} (h : EL ρ es fs.toList) {i : Nat} {e e' : Value × Value × Nat} (_ : es[i]? = some e) {g : MapEntry → MapEntry} (hg : ∀ f, fs[i]? = some f → (g f).key = e'.1 ∧ VR ρ e'.2.1 (g f).val ∧ (g f).born = e'.2.2) : EL ρ (es.set i e') (fs.modify i g).toList := by
  refine ⟨by simpa using h.1, fun j a b ha hb => ?_⟩
  rw [Array.getElem?_toList, Array.getElem?_modify] at hb
  by_cases hij : i = j
  · subst hij
    have hlt := (List.getElem?_eq_some_iff.1 ha).1
    rw [List.length_set] at hlt
    rw [List.getElem?_set_self hlt] at ha
    cases ha
    rw [if_pos rfl] at hb
    cases hf : fs[i]? with
    | none => rw [hf] at hb; cases hb
    | some f =>
      rw [hf] at hb
      cases hb
      exact hg f hf
  · rw [List.getElem?_set_ne hij] at ha
    rw [if_neg hij] at hb
    exact h.2 j a b ha (by rw [Array.getElem?_toList]; exact hb)
theorem EL.push {ρ : Rn} {es : List (Value × Value × Nat)} {fs : Array MapEntry} (h : EL ρ es fs.toList) {e : Value × Value × Nat} {f : MapEntry} (h1 : f.key = e.1) (h2 : VR ρ e.2.1 f.val) (h3 : f.born = e.2.2) : EL ρ (es ++ [e]) (fs.push f).toList := by
  have hl := h.1
  refine ⟨by simp [hl], fun j a b ha hb => ?_⟩
  rw [Array.toList_push] at hb
  rcases Nat.lt_or_ge j es.length with hj | hj
  · rw [List.getElem?_append_left hj] at ha
    rw [List.getElem?_append_left (by omega)] at hb
    exact h.2 j a b ha hb
  · rw [List.getElem?_append_right hj] at ha
    rw [List.getElem?_append_right (by omega)] at hb
    obtain h0 | h0 : j - es.length = 0 ∨ 0 < j - es.length := by omega
    · rw [h0] at ha
      rw [show j - fs.toList.length = 0 by omega] at hb
      simp at ha hb
      subst ha
      subst hb
      exact ⟨h1, h2, h3⟩
    · rw [List.getElem?_eq_none (by simp; omega)] at ha
      cases ha
theorem setMap_run {W : World} {r c : Nat} {fs : Array MapEntry} (o : Obj) (h : W.heap[r]? = some (.map fs c)) : (setObj r o).run P W = .ok () { W with heap := W.heap.setIfInBounds r o } := by simp [setObj, Sem.run, h]
/-- The entries of a map that is there. -/
def sents (m : Value) (H : Heap) : Option (Nat × List (Value × Value × Nat) × Nat) :=
  match m with
  | .map (some b) => match hget H b with
    | some (.map es c) => some (b, es, c)
    | _ => none
  | _ => none
theorem sents_ok {n0 : Nat} {ρ : Rn} {H : Heap} {W : World} {m m' : Value} {b c : Nat} {es : List (Value × Value × Nat)} (hs : sents m H = some (b, es, c)) (hv : VR ρ m m') (h : HR P n0 ρ H W) :
    ∃ L fs, m' = .map (some L.x) ∧ ρ b = some L ∧ hget H b = some (.map es c) ∧ W.heap[L.x]? = some (.map fs c) ∧ EL ρ es fs.toList := by
  unfold sents at hs
  split at hs
  · rename_i b2
    split at hs
    · rename_i es2 c2 hb
      cases hs
      obtain ⟨L, hL, rfl⟩ := hv.map_inv
      obtain ⟨L2, h1, h2, h3, fs, h4, h5⟩ := h.obj _ _ hb
      rw [hL] at h1
      cases h1
      exact ⟨L, fs, rfl, hL, hb, h4, h5⟩
    · cases hs
  · cases hs
def smapUpdate (P : Program) (t : TypeId) (m k v : Value) (H : Heap) : Option (Heap × List Nat) :=
  match und P t, isLit k, sents m H with
  | some (.map kt _), true, some (b, es, c) => match skey P false kt k, pv P (Instr.findKey kt k (ents es)) with
    | true, some (some (i, _)) => match es[i]? with
      | some e => match Instr.sameBits 10000 e.1 k with
        | true => some (hset H b (.map (es.set i (k, v, e.2.2)) c), [b])
        | false => none
      | none => none
    | true, some none => some (hset H b (.map (es ++ [(k, v, c)]) (c + 1)), [b])
    | _, _ => none
  | _, _, _ => none
theorem smapUpdate_ok {n0 : Nat} {ρ : Rn} {H H' : Heap} {W : World} {t : TypeId} {m m' k k' v v' : Value} {wr : List Nat} (hs : smapUpdate P t m k v H = some (H', wr)) (hm : VR ρ m m') (hk : VR ρ k k') (hv : VR ρ v v') (h : HR P n0 ρ H W) :
    ∃ W', (Instr.mapUpdate t m' k' v').run P W = .ok () W' ∧ Okay P n0 ρ H W H' wr ρ W' := by
  unfold smapUpdate at hs
  simp only [inf_eq, und_eq] at hs
  split at hs
  · rename_i kt et b es c ht hl he
    have := hk.lit_eq hl
    subst this
    obtain ⟨L, fs, rfl, hL, hb, hW, hE⟩ := sents_ok he hm h
    split at hs
    · rename_i i u hq hf
      have q1 := skey_run hq W
      obtain ⟨r', g1, g2⟩ := findKey_rel (W := W) hE hf
      split at hs
      · rename_i e hei
        split at hs
        · rename_i hb2
          cases hs
          obtain ⟨f, f1, f2, f3, f4⟩ := hE.get hei
          rw [Array.getElem?_toList] at f1
          rcases g2 with ⟨e1, -⟩ | ⟨i2, v2, v3, e1, rfl, e3⟩
          · cases e1
          · cases e1
            refine ⟨_, ?_, h.mapset hb hL (hE.set hei (e' := (k', v, e.2.2)) (g := fun e => { e with key := k', val := v' }) fun f' hf' => ?_)⟩
            · simp [Instr.mapUpdate, Sem.run_bind, run_underlying ht, run_getObj_map W L.x fs c hW, q1, g1, f1, f2, Instr.keyThatStays, hb2, setMap_run _ hW]
            · rw [f1] at hf'
              cases hf'
              exact ⟨rfl, hv, f4⟩
        · cases hs
      · cases hs
    · rename_i hq hf
      cases hs
      have q1 := skey_run hq W
      obtain ⟨r', g1, g2⟩ := findKey_rel (W := W) hE hf
      rcases g2 with ⟨-, rfl⟩ | ⟨i2, v2, v3, e1, -, -⟩
      · refine ⟨_, ?_, h.mapset hb hL (hE.push (e := (k', v, c)) (f := { key := k', val := v', born := c }) rfl hv rfl)⟩
        simp [Instr.mapUpdate, Sem.run_bind, run_underlying ht, run_getObj_map W L.x fs c hW, q1, g1, setMap_run _ hW]
      · cases e1
    · cases hs
  · cases hs
/-- An entry that is to be changed: its value and its stamp. -/
def smapEntry (P : Program) (t : TypeId) (m k : Value) (H : Heap) : Option (Value × Heap × List Nat) :=
  match und P t, isLit k, sents m H with
  | some (.map kt et), true, some (b, es, c) => match skey P false kt k, pv P (Instr.findKey kt k (ents es)), inf P et with
    | true, some (some (i, v)), _ => match es[i]? with
      | some e => match Instr.sameBits 10000 e.1 k with
        | true => some (.tuple #[v, goInt e.2.2], hset H b (.map (es.set i (k, e.2.1, e.2.2)) c), [b])
        | false => none
      | none => none
    | true, some none, some ti => match ti.zero with
      | some z => match isLit z with
        | true => some (.tuple #[z, goInt c], hset H b (.map (es ++ [(k, z, c)]) (c + 1)), [b])
        | false => none
      | none => none
    | _, _, _ => none
  | _, _, _ => none
theorem smapEntry_ok {n0 : Nat} {ρ : Rn} {H H' : Heap} {W : World} {t : TypeId} {m m' k k' u : Value} {wr : List Nat} (hs : smapEntry P t m k H = some (u, H', wr)) (hm : VR ρ m m') (hk : VR ρ k k') (h : HR P n0 ρ H W) :
    ∃ W' u', (Instr.mapEntry t m' k').run P W = .ok u' W' ∧ VR ρ u u' ∧ Okay P n0 ρ H W H' wr ρ W' := by
  unfold smapEntry at hs
  simp only [inf_eq, und_eq] at hs
  split at hs
  · rename_i kt et b es c ht hl he
    have := hk.lit_eq hl
    subst this
    obtain ⟨L, fs, rfl, hL, hb, hW, hE⟩ := sents_ok he hm h
    split at hs
    · rename_i i v hq hf
      have q1 := skey_run hq W
      obtain ⟨r', g1, g2⟩ := findKey_rel (W := W) hE hf
      split at hs
      · rename_i e hei
        split at hs
        · rename_i hb2
          cases hs
          obtain ⟨f, f1, f2, f3, f4⟩ := hE.get hei
          rw [Array.getElem?_toList] at f1
          rcases g2 with ⟨e1, -⟩ | ⟨i2, v2, v3, e1, rfl, e3⟩
          · cases e1
          · cases e1
            refine ⟨_, .tuple #[v3, goInt e.2.2], ?_, VR.tuple_ (xs := [v, goInt e.2.2]) (ys := [v3, goInt e.2.2]) (LR.cons e3 (LR.cons (.lit rfl) (LR.nil ρ))), h.mapset hb hL (hE.set hei (e' := (k', e.2.1, e.2.2)) (g := fun e => { e with key := k' }) fun f' hf' => ?_)⟩
            · simp [Instr.mapEntry, Sem.run_bind, run_underlying ht, run_getObj_map W L.x fs c hW, q1, g1, f1, f2, f4, Instr.keyThatStays, hb2, setMap_run _ hW]
            · rw [f1] at hf'
              cases hf'
              exact ⟨rfl, f3, f4⟩
        · cases hs
      · cases hs
    · rename_i ti hq hf hi
      split at hs
      · rename_i z hz
        split at hs
        · rename_i hzl
          cases hs
          have q1 := skey_run hq W
          obtain ⟨r', g1, g2⟩ := findKey_rel (W := W) hE hf
          rcases g2 with ⟨-, rfl⟩ | ⟨i2, v2, v3, e1, -, -⟩
          · refine ⟨_, .tuple #[z, goInt c], ?_, VR.tuple_ (xs := [z, goInt c]) (ys := [z, goInt c]) (LR.cons (.lit hzl) (LR.cons (.lit rfl) (LR.nil ρ))), h.mapset hb hL (hE.push (e := (k', z, c)) (f := { key := k', val := z, born := c }) rfl (.lit hzl) rfl)⟩
            simp [Instr.mapEntry, Sem.run_bind, run_underlying ht, run_getObj_map W L.x fs c hW, q1, g1, zero_get hi hz, setMap_run _ hW]
          · cases e1
        · cases hs
      · cases hs
    · cases hs
  · cases hs
end
end Go.Proofs.YtfnphhmcbdoojaaGreatDoor.Sim
