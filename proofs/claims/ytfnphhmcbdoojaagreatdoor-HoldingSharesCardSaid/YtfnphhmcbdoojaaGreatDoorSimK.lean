/- Symbolic run of an operation of whatever kind: it is what the run is. No program is named here. -/
import Derived.Test.YtfnphhmcbdoojaaGreatDoorSimJ
set_option linter.unusedSimpArgs false
namespace Go.Proofs.YtfnphhmcbdoojaaGreatDoor.Sim
open Go Go.RowKit Go.WideShapes

noncomputable section

variable {P : Program}
theorem scall_some {v : Value} {as : List Value} {f : FuncId} {bs : List Value} (h : scall P v as = some (.call f bs)) : ∃ c1 c2, v = .func (.func f) c1 c2 ∧ isFn P f = true ∧ bs = c1.toList ++ as ++ c2.toList := by
  unfold scall at h
  split at h
  · rename_i g c1 c2
    split at h
    · rename_i hf
      cases h
      exact ⟨c1, c2, rfl, hf, rfl⟩
    · cases h
  · cases h
theorem scall_val {v : Value} {as : List Value} {u : Value} {H : Heap} {wr : List Nat} (h : scall P v as = some (.val u H wr)) : False := by
  unfold scall at h
  split at h
  · split at h <;> cases h
  · cases h
theorem VR.func_inv {ρ : Rn} {f : FuncId} {c1 c2 : Array Value} {v' : Value} (h : VR ρ (.func (.func f) c1 c2) v') : ∃ d1 d2, v' = .func (.func f) d1 d2 ∧ LR ρ c1.toList d1.toList ∧ LR ρ c2.toList d2.toList := by
  cases h with
  | lit h =>
    simp only [isLit, aggLit, cellLit, Bool.and_eq_true] at h
    have e1 := size_zero_of h.1
    have e2 := size_zero_of h.2
    subst e1 e2
    exact ⟨_, _, rfl, LR.nil ρ, LR.nil ρ⟩
  | func h1 h2 h3 h4 => exact ⟨_, _, rfl, ⟨by simpa using h1, fun i v v' x y => h2 i v v' (by simpa using x) (by simpa using y)⟩, ⟨by simpa using h3, fun i v v' x y => h4 i v v' (by simpa using x) (by simpa using y)⟩⟩
theorem q1_some {tm : Tr Value} {x : Operand} {f : Value → Option Value} {v : Value} (h : q1 tm x f = some v) : okx x = true ∧ f (sev tm x) = some v := by
  unfold q1 at h
  split at h
  · rename_i hk; exact ⟨hk, h⟩
  · cases h
theorem q2_some {tm : Tr Value} {x y : Operand} {f : Value → Value → Option Value} {v : Value} (h : q2 tm x y f = some v) : okx x = true ∧ okx y = true ∧ f (sev tm x) (sev tm y) = some v := by
  unfold q2 at h
  split at h
  · rename_i hk hl; exact ⟨hk, hl, h⟩
  · cases h
theorem qMove_some {tm : Tr Value} {x : Operand} {v : Value} (h : qMove tm x = some v) : okx x = true ∧ v = sev tm x := by
  unfold qMove at h
  split at h
  · rename_i hk; cases h; exact ⟨hk, rfl⟩
  · cases h
theorem fbin_ok {op : BinOp} {k : IntKind} {a b : Int} {v : Value} (h : fbin op k a b = some v) (t : TypeId) (x y : Operand) (W : World) : (do eqGuard op t x y (.int k a) (.int k b); binOp op t (.int k a) (.int k b) : Sem Value).run P W = .ok v W ∧ isLit v = true := by
  cases op <;> simp only [fbin, Option.some.injEq, reduceCtorEq] at h
  all_goals subst h
  all_goals exact ⟨by simp [eqGuard, binOp, Op.intArith, Op.intCmp], rfl⟩
set_option maxHeartbeats 1000000 in
theorem squiet_ok {ρ : Rn} {o : Oper} {tm : Tr Value} {a : Act} {v : Value} (hs : squiet P o tm = some v) (ht : FR ρ tm a.tmps.toList) :
    ∃ v', (∀ W : World, (execOp a.eval o).run P W = .ok (.value v') W) ∧ VR ρ v v' := by
  have hx : ∀ {x : Operand}, okx x = true → VR ρ (sev tm x) (a.eval x) := fun {x} hm => sev_rel ht hm
  unfold squiet at hs
  split at hs
  · rename_i x ho
    obtain ⟨hk, rfl⟩ := qMove_some hs
    exact ⟨a.eval x, fun W => by simp [execOp, ho], hx hk⟩
  · rename_i x ho
    obtain ⟨hk, rfl⟩ := qMove_some hs
    exact ⟨a.eval x, fun W => by simp [execOp, ho], hx hk⟩
  · rename_i x ho
    unfold qNil at hs
    split at hs
    · rename_i hk
      have hv := hx hk
      unfold qNil1 at hs
      split at hs
      · rename_i b k he
        cases hs
        rw [he] at hv
        obtain ⟨L, -, e⟩ := hv.ptr_inv
        exact ⟨.pointer (some ⟨L.x, L.s + k, none⟩), fun W => by simp [execOp, ho, e], by rw [e] at hv; exact hv⟩
      · cases hs
    · cases hs
  · rename_i c x y ho
    unfold qPick at hs
    split at hs
    · rename_i hk he
      obtain ⟨hk2, rfl⟩ := qMove_some hs
      have hc := hx hk
      rw [he] at hc
      have e := hc.lit_eq rfl
      exact ⟨a.eval x, fun W => by simp [execOp, ho, e, asBool], hx hk2⟩
    · rename_i hk he
      obtain ⟨hk2, rfl⟩ := qMove_some hs
      have hc := hx hk
      rw [he] at hc
      have e := hc.lit_eq rfl
      exact ⟨a.eval y, fun W => by simp [execOp, ho, e, asBool], hx hk2⟩
    · cases hs
  · rename_i t ps ho
    unfold qBuild at hs
    split at hs
    · rename_i hk
      have hp := PR.map_ ht (l := ps.toList) hk
      obtain ⟨u', k1, k2⟩ := sbuild_ok (qs := ps.map fun (i, x) => (i, a.eval x)) hs (by simpa using hp)
      exact ⟨u', fun W => by simp [execOp, ho, k1], k2⟩
    · cases hs
  · rename_i op t x y yt ho
    unfold qBin at hs
    split at hs
    · rename_i hk1 hk2
      have q1 := hx hk1
      have q2 := hx hk2
      unfold qBin1 at hs
      split at hs
      · rename_i k b l c e1 e2
        rw [e1] at q1
        rw [e2] at q2
        have f1 := q1.int_inv
        have f2 := q2.int_inv
        split at hs
        · rename_i hkl
          have hkl := of_decide_eq_true hkl
          subst hkl
          have hl := (fbin_ok (P := P) hs t x y default).2
          exact ⟨v, fun W => by simp only [execOp, ho, f1, f2]; rw [Sem.run_bind, (fbin_ok (P := P) hs t x y W).1]; rfl, .lit hl⟩
        · cases hs
      · have hl := (snil_ok (W := default) (ox := x) (oy := y) hs q1 q2).2
        exact ⟨v, fun W => by simp only [execOp, ho]; rw [Sem.run_bind, (snil_ok (W := W) (ox := x) (oy := y) hs q1 q2).1]; rfl, .lit hl⟩
    · cases hs
  · rename_i op t x ho
    obtain ⟨hk, hf⟩ := q1_some hs
    unfold sun at hf
    split at hf
    · rename_i u hl hp
      split at hf
      · rename_i hl2
        cases hf
        have e := (hx hk).lit_eq hl
        exact ⟨v, fun W => by simp only [execOp, ho, e]; rw [Sem.run_bind, pv_run hp W]; rfl, .lit hl2⟩
      · cases hf
    · cases hf
  · rename_i s d x ho
    obtain ⟨hk, hf⟩ := q1_some hs
    unfold sconv at hf
    simp only [inf_eq, und_eq, fun1_eq] at hf
    split at hf
    · rename_i k0 n us k hv hus hud
      split at hf
      · rename_i u hp
        split at hf
        · rename_i hl2
          cases hf
          have e := hx hk
          rw [hv] at e
          have e := e.int_inv
          refine ⟨v, fun W => ?_, .lit hl2⟩
          have : (convert s d (.int k0 n)).run P W = .ok v W := by
            unfold convert
            cases us <;> simp [run_underlying hus, run_underlying hud, pv_run hp W]
          simp only [execOp, ho, e]
          rw [Sem.run_bind, this]
          rfl
        · cases hf
      · cases hf
    · cases hf
  · rename_i fn c1 c2 ho
    unfold qFunc at hs
    split at hs
    · rename_i f hk1 hk2
      cases hs
      have q1 := LR.map_ ht hk1
      have q2 := LR.map_ ht hk2
      exact ⟨.func (.func f) (c1.map a.eval) (c2.map a.eval), fun W => by simp [execOp, ho, Instr.makeFunc], .func (by simp) (fun i v v' x y => q1.2 i v v' (by rw [← Array.toList_map, Array.getElem?_toList]; exact x) (by rw [← Array.toList_map, Array.getElem?_toList]; exact y)) (by simp) (fun i v v' x y => q2.2 i v v' (by rw [← Array.toList_map, Array.getElem?_toList]; exact x) (by rw [← Array.toList_map, Array.getElem?_toList]; exact y))⟩
    · cases hs
  · rename_i t x lo hi mx ho
    unfold qSlice at hs
    split at hs
    · rename_i hk hlo hhi
      have el : lo.map a.eval = lo.map (sev tm) := by
        cases lo with
        | none => rfl
        | some y => simp at hlo ⊢; exact sev_lit ht hlo
      have eh : hi.map a.eval = hi.map (sev tm) := by
        cases hi with
        | none => rfl
        | some y => simp at hhi ⊢; exact sev_lit ht hhi
      obtain ⟨u', k1, k2⟩ := sslice_ok hs (hx hk)
      exact ⟨u', fun W => by simp only [execOp, ho, el, eh, Option.map_none]; rw [Sem.run_bind, k1]; rfl, k2⟩
    · cases hs
  · rename_i t x f ho
    obtain ⟨hk, hf⟩ := q1_some hs
    obtain ⟨u', k1, k2⟩ := sfield_ok hf (hx hk)
    exact ⟨u', fun W => by simp [execOp, ho, k1], k2⟩
  · rename_i t x f ho
    obtain ⟨hk, hf⟩ := q1_some hs
    obtain ⟨u', k1, k2⟩ := sgetf_ok hf (hx hk)
    exact ⟨u', fun W => by simp [execOp, ho, k1], k2⟩
  · rename_i t x ix ho
    obtain ⟨hk, hk2, hf⟩ := q2_some hs
    obtain ⟨u', k1, k2⟩ := sindex_ok hf (hx hk) (hx hk2)
    exact ⟨u', fun W => by simp [execOp, ho, k1], k2⟩
  · rename_i t x ix ho
    obtain ⟨hk, hk2, hf⟩ := q2_some hs
    obtain ⟨u', k1, k2⟩ := sidx_ok hf (hx hk) (hx hk2)
    exact ⟨u', fun W => by simp [execOp, ho, k1], k2⟩
  · rename_i x k ho
    obtain ⟨hk, hf⟩ := q1_some hs
    obtain ⟨u', k1, k2⟩ := sextract_ok hf (hx hk)
    exact ⟨u', fun W => by simp only [execOp, ho]; rw [Sem.run_bind, k1]; rfl, k2⟩
  · cases hs
theorem sstill_ok {ρ : Rn} {o : Oper} {tm : Tr Value} {a : Act} {v : Value} (hs : sstill P o tm = some v) (ht : FR ρ tm a.tmps.toList) :
    ∃ v', (∀ W : World, (execOp a.eval o).run P W = .ok (.value v') W) ∧ VR ρ v v' := by
  unfold sstill at hs
  split at hs
  · rename_i u hp
    cases hs
    exact squiet_ok hp ht
  · split at hs
    · have hl := (spure_ok hs ht default).2
      exact ⟨v, fun W => (spure_ok hs ht W).1, .lit hl⟩
    · cases hs
set_option maxHeartbeats 1000000 in
theorem sother_ok {n0 : Nat} {ρ : Rn} {H H' : Heap} {W : World} {nm : Nat} {o : Oper} {tm : Tr Value} {a : Act} {v : Value} {wr : List Nat} (hs : sother P nm o tm H = some (.val v H' wr)) (ht : FR ρ tm a.tmps.toList) (h : HR P n0 ρ H W) (h0 : n0 ≤ W.heap.size) :
    Did P n0 ρ H W a o v H' wr := by
  have hx : ∀ {x : Operand}, okx x = true → VR ρ (sev tm x) (a.eval x) := fun {x} hm => sev_rel ht hm
  unfold sother at hs
  split at hs
  · rename_i t ho
    obtain ⟨e1, rfl⟩ := ofVH_some hs
    unfold salloc at e1
    simp only [inf_eq, und_eq, fun1_eq] at e1
    split at e1
    · rename_i i hi
      split at e1
      · rename_i z hz
        split at e1
        · rename_i H2 hl hn
          cases e1
          obtain ⟨ρ', W', k1, k2, k3⟩ := alloc_ok hi hz hl hn h h0
          exact ⟨ρ', W', _, _, by simp [execOp, ho, k1], .inl rfl, k2, k3⟩
        · cases e1
      · cases e1
    · cases e1
  · rename_i t x ho
    unfold soBox at hs
    split at hs
    · rename_i hk
      obtain ⟨e1, rfl⟩ := ofVH_some hs
      unfold sbox at e1
      split at e1
      · rename_i H2 hn
        cases e1
        obtain ⟨ρ', W', k1, k2, k3⟩ := box_ok hn (hx hk) h h0
        exact ⟨ρ', W', _, _, by simp [execOp, ho, k1], .inl rfl, k2, k3⟩
      · cases e1
    · cases hs
  · rename_i t n ps ho
    unfold soSlice at hs
    split at hs
    · rename_i hk
      obtain ⟨e1, rfl⟩ := ofVH_some hs
      have hp := PR.map_ ht (l := ps.toList) hk
      obtain ⟨ρ', W', u', k1, k2, k3⟩ := sbslice_ok (qs := ps.map fun (i, x) => (i, a.eval x)) e1 (by simpa using hp) h h0
      exact ⟨ρ', W', _, _, by simp [execOp, ho, k1], .inl rfl, k2, k3⟩
    · cases hs
  · rename_i t x ho
    unfold soLoad at hs
    split at hs
    · rename_i hk
      obtain ⟨e1, rfl, rfl⟩ := ofV_some hs
      obtain ⟨u', k1, k2⟩ := sload_ok e1 (hx hk) h
      exact Did.val h (by simp [execOp, ho, k1]) k2
    · cases hs
  · rename_i t x y ho
    unfold soStore at hs
    split at hs
    · rename_i hk1 hk2
      split at hs
      · rename_i H2 wr2 e1
        cases hs
        obtain ⟨W', k1, k2⟩ := sstore_ok e1 (hx hk1) (hx hk2) h
        exact ⟨ρ, W', _, undef, by simp [execOp, ho, k1], .inr ⟨rfl, rfl⟩, .lit rfl, k2⟩
      · cases hs
    · cases hs
  · rename_i t l c ho
    unfold soMake at hs
    split at hs
    · rename_i hk1 hk2
      obtain ⟨e1, rfl⟩ := ofVH_some hs
      obtain ⟨ρ', W', u', k1, k2, k3⟩ := smake_ok e1 (hx hk1) (hx hk2) h h0
      exact ⟨ρ', W', _, _, by simp [execOp, ho, k1], .inl rfl, k2, k3⟩
    · cases hs
  · rename_i c ho
    unfold soCall at hs
    split at hs
    · rename_i as hca
      unfold callArgs at hca
      split at hca
      · rename_i hk
        cases hca
        unfold soCall1 at hs
        split at hs
        · rename_i b hb
          have hl := LR.map_ ht hk
          obtain ⟨ρ', W', v', k1, k2, k3⟩ := sbuiltin_ok (ty := o.type) hs hl h h0
          refine ⟨ρ', W', _, v', ?_, .inl rfl, k2, k3⟩
          have e : (List.map a.eval c.args.toList).toArray = c.args.map a.eval := by apply Array.ext'; simp
          rw [e] at k1
          simp only [execOp, ho, resolve, hb]
          simp [invoke, k1]
        · split at hs
          · exact (scall_val hs).elim
          · cases hs
        · cases hs
      · cases hca
    · cases hs
  · rename_i t d x ho
    unfold soStr at hs
    split at hs
    · rename_i hk
      obtain ⟨e1, rfl, rfl⟩ := ofV_some hs
      obtain ⟨k1, k2⟩ := sstr_ok e1 (hx hk) h
      exact Did.val h (by simp [execOp, ho, k1]) (.lit k2)
    · cases hs
  · rename_i t r ho
    unfold soMap at hs
    split at hs
    · obtain ⟨e1, rfl⟩ := ofVH_some hs
      obtain ⟨ρ', W', v', k1, k2, k3⟩ := smakeMap_ok (t := t) e1 h h0
      exact ⟨ρ', W', _, _, by simp [execOp, ho, k1], .inl rfl, k2, k3⟩
    · cases hs
  · rename_i t x k ok ho
    unfold soLook at hs
    split at hs
    · rename_i hk1 hk2
      obtain ⟨e1, rfl, rfl⟩ := ofV_some hs
      obtain ⟨u', k1, k2⟩ := slookup_ok e1 (hx hk1) (hx hk2) h
      exact Did.val h (by simp [execOp, ho, k1]) k2
    · cases hs
  · rename_i t x k w ho
    unfold soUpd at hs
    split at hs
    · rename_i hk1 hk2 hk3
      obtain ⟨e1, rfl⟩ := ofU_some hs
      obtain ⟨W', k1, k2⟩ := smapUpdate_ok e1 (hx hk1) (hx hk2) (hx hk3) h
      exact ⟨ρ, W', _, undef, by simp [execOp, ho, k1], .inr ⟨rfl, rfl⟩, .lit rfl, k2⟩
    · cases hs
  · rename_i t x k w ho
    unfold soUpd at hs
    split at hs
    · rename_i hk1 hk2 hk3
      obtain ⟨e1, rfl⟩ := ofU_some hs
      obtain ⟨W', k1, k2⟩ := smapUpdate_ok e1 (hx hk1) (hx hk2) (hx hk3) h
      exact ⟨ρ, W', _, undef, by simp [execOp, ho, k1], .inr ⟨rfl, rfl⟩, .lit rfl, k2⟩
    · cases hs
  · rename_i t x k ho
    unfold soEnt at hs
    split at hs
    · rename_i hk1 hk2
      obtain ⟨W', u', k1, k2, k3⟩ := smapEntry_ok (ofVHW_some hs) (hx hk1) (hx hk2) h
      exact ⟨ρ, W', _, _, by simp [execOp, ho, k1], .inl rfl, k2, k3⟩
    · cases hs
  · rename_i t x k w ho
    unfold soEnS at hs
    split at hs
    · rename_i hk1 hk2 hk3
      obtain ⟨e1, rfl⟩ := ofU_some hs
      obtain ⟨W', k1, k2⟩ := sentryStore_ok (t := t) e1 (hx hk1) (hx hk2) (hx hk3) h
      exact ⟨ρ, W', _, undef, by simp [execOp, ho, k1], .inr ⟨rfl, rfl⟩, .lit rfl, k2⟩
    · cases hs
  · cases hs

end
end Go.Proofs.YtfnphhmcbdoojaaGreatDoor.Sim
