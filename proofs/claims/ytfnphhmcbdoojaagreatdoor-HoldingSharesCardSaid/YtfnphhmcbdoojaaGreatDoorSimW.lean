/- Symbolic run: maps that are made, asked and written. No program is named here. -/
import Derived.Test.YtfnphhmcbdoojaaGreatDoorSimV
import Derived.Test.YtfnphhmcbdoojaaGreatDoorSimC
import Derived.MapKept
set_option linter.unusedSimpArgs false
namespace Go.Proofs.YtfnphhmcbdoojaaGreatDoor.Sim
open Go Go.RowKit Go.WideShapes

noncomputable section
variable {P : Program}
def skey (P : Program) (empty : Bool) (kt : TypeId) (k : Value) : Bool :=
  match pv P (Instr.checkKey empty 10000 kt k) with
  | some _ => true
  | none => false
theorem skey_run {empty : Bool} {kt : TypeId} {k : Value} (h : skey P empty kt k = true) (W : World) : (Instr.checkKey empty 10000 kt k).run P W = .ok () W := by
  unfold skey at h
  split at h
  · rename_i u hp
    exact pv_run hp W
  · cases h
def smEnts (m : Value) (H : Heap) : Option (List (Value × Value × Nat)) :=
  match m with
  | .map none => some []
  | .map (some b) => match hget H b with
    | some (.map es _) => some es
    | _ => none
  | _ => none
theorem smEnts_ok {n0 : Nat} {ρ : Rn} {H : Heap} {W : World} {m m' : Value} {es : List (Value × Value × Nat)} (hs : smEnts m H = some es) (hv : VR ρ m m') (h : HR P n0 ρ H W) :
    (m' = .map none ∧ es = []) ∨ ∃ b L fs k, m' = .map (some L.x) ∧ ρ b = some L ∧ hget H b = some (.map es k) ∧ W.heap[L.x]? = some (.map fs k) ∧ EL ρ es fs.toList := by
  unfold smEnts at hs
  split at hs
  · cases hs
    exact .inl ⟨hv.lit_eq rfl, rfl⟩
  · rename_i b
    split at hs
    · rename_i es2 k hb
      cases hs
      obtain ⟨L, hL, rfl⟩ := hv.map_inv
      obtain ⟨L2, h1, h2, h3, fs, h4, h5⟩ := h.obj b _ hb
      rw [hL] at h1
      cases h1
      exact .inr ⟨b, L, fs, k, rfl, hL, hb, h4, h5⟩
    · cases hs
  · cases hs
def okPair (ok : Bool) (v : Value) (b : Bool) : Value :=
  match ok with
  | true => .tuple #[v, .bool b]
  | false => v
theorem okPair_rel {ρ : Rn} {v v' : Value} (h : VR ρ v v') (ok b : Bool) : VR ρ (okPair ok v b) (okPair ok v' b) := by
  cases ok with
  | false => exact h
  | true => exact VR.tuple_ (xs := [v, .bool b]) (ys := [v', .bool b]) (LR.cons h (LR.cons (.lit rfl) (LR.nil ρ)))
def slookup (P : Program) (t : TypeId) (m k : Value) (ok : Bool) (H : Heap) : Option Value :=
  match und P t, isLit k, smEnts m H with
  | some (.map kt et), true, some es => match skey P es.isEmpty kt k, pv P (Instr.findKey kt k (ents es)), inf P et with
    | true, some (some (_, v)), _ => some (okPair ok v true)
    | true, some none, some i => match i.zero with
      | some z => match isLit z with
        | true => some (okPair ok z false)
        | false => none
      | none => none
    | _, _, _ => none
  | _, _, _ => none
theorem slookup_ok {n0 : Nat} {ρ : Rn} {H : Heap} {W : World} {t : TypeId} {m m' k k' u : Value} {ok : Bool} (hs : slookup P t m k ok H = some u) (hm : VR ρ m m') (hk : VR ρ k k') (h : HR P n0 ρ H W) :
    ∃ u', (Instr.lookup t m' k' ok).run P W = .ok u' W ∧ VR ρ u u' := by
  unfold slookup at hs
  simp only [inf_eq, und_eq] at hs
  split at hs
  · rename_i kt et es ht hl he
    have := hk.lit_eq hl
    subst this
    have run : ∀ {fs : Array MapEntry}, EL ρ es fs.toList → ((m' = .map none ∧ fs = #[]) ∨ ∃ r c, m' = .map (some r) ∧ W.heap[r]? = some (.map fs c)) → ∃ u', (Instr.lookup t m' k' ok).run P W = .ok u' W ∧ VR ρ u u' := fun {fs} hE hM => by
      have hemp : fs.isEmpty = es.isEmpty := by
        have e := hE.1
        rw [← Array.isEmpty_toList]
        cases es <;> cases hf : fs.toList <;> simp [hf] at e ⊢
      have fin : ∀ {r' : Option (Nat × Value)} {u' : Value}, skey P fs.isEmpty kt k' = true → (Instr.findKey kt k' fs.toList).run P W = .ok r' W → ((∃ i v', r' = some (i, v') ∧ u' = okPair ok v' true) ∨ (r' = none ∧ ∃ z, (zeroValue et).run P W = .ok z W ∧ u' = okPair ok z false)) → (Instr.lookup t m' k' ok).run P W = .ok u' W := fun {r' u'} hq g1 hr => by
        have q1 := skey_run hq W
        rcases hM with ⟨rfl, rfl⟩ | ⟨r, c, rfl, hb⟩
        · simp only [Array.isEmpty_empty] at q1
          rcases hr with ⟨i, v', rfl, rfl⟩ | ⟨rfl, z, hz, rfl⟩
          · cases ok <;> simp [Instr.lookup, Sem.run_bind, run_underlying ht, q1, g1, okPair]
          · cases ok <;> simp [Instr.lookup, Sem.run_bind, run_underlying ht, q1, g1, okPair, hz]
        · rcases hr with ⟨i, v', rfl, rfl⟩ | ⟨rfl, z, hz, rfl⟩
          · cases ok <;> simp [Instr.lookup, Sem.run_bind, run_underlying ht, run_getObj_map W r fs c hb, q1, g1, okPair]
          · cases ok <;> simp [Instr.lookup, Sem.run_bind, run_underlying ht, run_getObj_map W r fs c hb, q1, g1, okPair, hz]
      split at hs
      · rename_i i v hq hf
        cases hs
        obtain ⟨r', g1, g2⟩ := findKey_rel (W := W) hE hf
        rcases g2 with ⟨e1, -⟩ | ⟨i2, v2, v', e1, rfl, e3⟩
        · cases e1
        · cases e1
          rw [← hemp] at hq
          exact ⟨okPair ok v' true, fin hq g1 (.inl ⟨_, _, rfl, rfl⟩), okPair_rel e3 ok true⟩
      · rename_i i hq hf hi
        split at hs
        · rename_i z hz
          split at hs
          · rename_i hzl
            cases hs
            obtain ⟨r', g1, g2⟩ := findKey_rel (W := W) hE hf
            rcases g2 with ⟨-, rfl⟩ | ⟨i2, v2, v', e1, -, -⟩
            · rw [← hemp] at hq
              exact ⟨okPair ok z false, fin hq g1 (.inr ⟨rfl, z, zero_get hi hz W, rfl⟩), okPair_rel (.lit hzl) ok false⟩
            · cases e1
          · cases hs
        · cases hs
      · cases hs
    rcases smEnts_ok he hm h with ⟨e1, e2⟩ | ⟨b, L, fs, c, e1, -, -, e4, e5⟩
    · subst e2
      exact run (fs := #[]) ⟨rfl, fun i a b ha => by simp at ha⟩ (.inl ⟨e1, rfl⟩)
    · exact run e5 (.inr ⟨L.x, c, e1, e4⟩)
  · cases hs
/-- A map is written. -/
theorem HR.mapset {n0 : Nat} {ρ : Rn} {H : Heap} {W : World} (h : HR P n0 ρ H W) {b : Nat} {es es' : List (Value × Value × Nat)} {k k' : Nat} (hb : hget H b = some (.map es k)) {L : Loc} (hL : ρ b = some L) {fs' : Array MapEntry} (he : EL ρ es' fs'.toList) :
    Okay P n0 ρ H W (hset H b (.map es' k')) [b] ρ { W with heap := W.heap.setIfInBounds L.x (.map fs' k') } := by
  obtain ⟨L2, h1, h2, h3, g⟩ := h.obj b _ hb
  rw [hL] at h1
  cases h1
  have other : ∀ x, x ≠ L.x → ({ W with heap := W.heap.setIfInBounds L.x (.map fs' k') } : World).heap[x]? = W.heap[x]? := fun x hx => by simp [Array.getElem?_setIfInBounds, Ne.symm hx]
  refine ⟨Ext.refl _, ⟨?_, ?_, ?_⟩, ⟨rfl, rfl, rfl, by simp, fun x hx => other x (by omega)⟩, ?_, fun q o' hq hn => by simp at hn; rw [hget_hset_other hn]; exact hq⟩
  · intro q L' hq
    by_cases e : q = b
    · subst e; rw [hget_hset_same hb]; rfl
    · rw [hget_hset_other e]; exact h.dom q L' hq
  · intro q o' hq
    by_cases e : q = b
    · subst e
      rw [hget_hset_same hb] at hq
      cases hq
      exact ⟨L, hL, h2, by simpa using h3, fs', by simp [h3], he⟩
    · rw [hget_hset_other e] at hq
      obtain ⟨L', k1, k2, k3, k4⟩ := h.obj q o' hq
      refine ⟨L', k1, k2, by simpa using k3, ?_⟩
      cases hd : isDead o' with
      | true => cases o' <;> first | trivial | cases hd
      | false => exact k4.mono (Ext.refl _) (other _ fun e' => e (h.inj q b o' _ L' L hq hb hd rfl k1 hL e'))
  · intro q q' o1 o2 M M' hq hq' hd hd' hM hM' hx
    have lift : ∀ j oj, hget (hset H b (.map es' k')) j = some oj → isDead oj = false → ∃ oj', hget H j = some oj' ∧ isDead oj' = false := fun j oj hj hdj => by
      by_cases e : j = b
      · subst e; exact ⟨_, hb, rfl⟩
      · rw [hget_hset_other e] at hj; exact ⟨oj, hj, hdj⟩
    obtain ⟨p1, q1, r1⟩ := lift q o1 hq hd
    obtain ⟨p2, q2, r2⟩ := lift q' o2 hq' hd'
    exact h.inj q q' p1 p2 M M' q1 q2 r1 r2 hM hM' hx
  · intro q o' M hq hd hn hM
    simp at hn
    rw [hget_hset_other hn]
    exact ⟨hq, other _ fun e' => hn (h.inj q b o' _ M L hq hb hd rfl hM hL e')⟩
end
end Go.Proofs.YtfnphhmcbdoojaaGreatDoor.Sim
