/- Maps that the call makes, with numbers as elements and absent keys, whose entries are counted and gone through: as functions of the key. No program is named here. -/
import Derived.Test.YtmcefodfppdajaaMapK
import Derived.Maps.RangeWalk
import Derived.WideKeyEntry
namespace Go.Proofs.Ytmcefodfppdajaa
open Go.RowKit Go.Maps

section
variable {α : Type} {P : Program} {K E T : TypeId} {κ : α → Value} {Ok : α → Prop} {w w' : World} {b r n cnt : Nat}
/-- What D says of the keys. -/
structure IRead (P : Program) (K : TypeId) (κ : α → Value) (Ok : α → Prop) (f : α → Option Int) (D : DataW Unit) (ks : List α) : Prop where
  at_ : ∀ x, Ok x → D.atKey (KL P K κ x) (.lit (.int .i64 0)) = .lit (.int .i64 ((f x).getD 0)) ∧ Maps.has D (KL P K κ x) = (f x).isSome
  all : ∀ kl, Maps.has D kl = true → ∃ x, Ok x ∧ KL P K κ x = kl
  nodup : ks.Nodup
  mem : ∀ x, x ∈ ks ↔ Ok x ∧ (f x).isSome = true
  size : Maps.size D = ks.length
def IMap (w : World) (P : Program) (K E : TypeId) (κ : α → Value) (Ok : α → Prop) (b n : Nat) (f : α → Option Int) : Prop :=
  ∃ (D : DataW Unit) (ks : List α), w.ownsMap P K (plainElem P E) b n D ∧ IRead P K κ Ok f D ks
theorem IMap.made (w : World) : IMap (w.alloc (.map #[] 0)) P K E κ Ok w.heap.size 0 (fun _ => none) :=
  ⟨.map [], [], World.ownsMap_made w P K _, fun _ _ => ⟨rfl, rfl⟩, fun kl h => by simp [has_eq] at h, List.nodup_nil, fun x => by simp, rfl⟩
theorem IMap.lt {f : α → Option Int} (h : IMap w P K E κ Ok b n f) : b < w.heap.size := by obtain ⟨D, ks, h1, -⟩ := h; exact h1.lt
theorem IMap.more {f : α → Option Int} (h : IMap w P K E κ Ok b n f) {m : Nat} (hm : n ≤ m) : IMap w P K E κ Ok b m f := by
  obtain ⟨D, ks, h1, h2⟩ := h
  exact ⟨D, ks, h1.mono hm, h2⟩
theorem IMap.kept {f : α → Option Int} {row : Option Nat} (h : IMap w P K E κ Ok b n f) (hg : w.grownBy w' row) (hne : some b ≠ row) : IMap w' P K E κ Ok b n f := by
  obtain ⟨D, ks, h1, h2⟩ := h
  exact ⟨D, ks, h1.kept hg hne, h2⟩
theorem IMap.below {f : α → Option Int} (h : IMap w P K E κ Ok b n f) (hb : Below w.heap.size w w') : IMap w' P K E κ Ok b n f := h.kept (grown_of_below hb) (by simp)
theorem IMap.alloc {f : α → Option Int} (h : IMap w P K E κ Ok b n f) (o : Obj) : IMap (w.alloc o) P K E κ Ok b n f := h.kept (World.grownBy_alloc w o none) (by simp)
theorem IMap.drew {f : α → Option Int} (h : IMap w P K E κ Ok b n f) : IMap w.drew P K E κ Ok b n f := h.below ((Below.refl _ _).drew)
theorem IMap.setCell {f : α → Option Int} (h : IMap w P K E κ Ok b n f) {p : Addr} (hp : b ≠ p.block) (u : Value) : IMap (w.setCell p u) P K E κ Ok b n f := by
  obtain ⟨D, ks, h1, h2⟩ := h
  exact ⟨D, ks, h1.setCell hp u, h2⟩
theorem IMap.same {f g : α → Option Int} (h : IMap w P K E κ Ok b n f) (hg : ∀ x, f x = g x) : IMap w P K E κ Ok b n g := by
  rwa [show g = f from funext fun x => (hg x).symm]
/-- How many entries there are. -/
def Keys (Ok : α → Prop) (f : α → Option Int) (c : Nat) : Prop := ∃ ks : List α, ks.Nodup ∧ (∀ x, x ∈ ks ↔ Ok x ∧ (f x).isSome = true) ∧ ks.length = c
theorem IMap.keys {f : α → Option Int} (h : IMap w P K E κ Ok b n f) : ∃ c, Keys Ok f c ∧ c ≤ n := by
  obtain ⟨D, ks, h1, h2⟩ := h
  exact ⟨_, ⟨ks, h2.nodup, h2.mem, rfl⟩, by rw [← h2.size]; exact h1.size_le⟩
theorem IMap.look {f : α → Option Int} (h : IMap w P K E κ Ok b n f) (hk : KeyT P K κ Ok) (ht : P.underlying T = some (.map K E)) (he : P.underlying E = some (.int .i64)) (hz : (zeroValue E).run P w = .ok (.int .i64 0) w) {x : α} (hx : Ok x) :
    (Instr.lookup T (.map (some b)) (κ x) false).run P w = .ok (.int .i64 ((f x).getD 0)) w := by
  obtain ⟨D, ks, h1, h2⟩ := h
  obtain ⟨c, hrun, hat, -⟩ := h1.lookup_int hk.keyed ht he hz (hk.some_ x hx)
  rw [(h2.at_ x hx).1] at hat
  have e : (f x).getD 0 = c := by simpa using hat
  rw [e]
  exact hrun
theorem IRead.put [DecidableEq α] {f : α → Option Int} {D : DataW Unit} {ks : List α} (h : IRead P K κ Ok f D ks) (hk : KeyT P K κ Ok) (hT : Tidy D) {y : α} (hy : Ok y) (z : Int) :
    ∃ ks', IRead P K κ Ok (fun q => if q = y then some z else f q) (D.put (KL P K κ y) (.lit (.int .i64 z))) ks' := by
  have hkl := hk.some_ y hy
  have hlit := hk.keyed.key hkl
  refine ⟨if (f y).isSome then ks else y :: ks, fun q hq => ?_, fun kl hl => ?_, ?_, fun q => ?_, ?_⟩
  · by_cases hqy : q = y
    · subst hqy
      simp only [if_true]
      exact ⟨by rw [atKey_put_same hT.isMap hlit]; rfl, by rw [has_put_same hT.isMap hlit]; rfl⟩
    · simp only [if_neg hqy]
      have hne := hk.ne hq hy hqy
      rw [atKey_put_other hne, has_put_other hne]
      exact h.at_ q hq
  · by_cases e : kl = KL P K κ y
    · exact ⟨y, hy, e.symm⟩
    · rw [has_put_other e] at hl
      exact h.all kl hl
  · cases hf : (f y).isSome with
    | true => exact h.nodup
    | false =>
      refine List.nodup_cons.2 ⟨fun hm => ?_, h.nodup⟩
      have := (h.mem y).1 hm
      rw [hf] at this
      cases this.2
  · by_cases hqy : q = y
    · subst hqy
      simp only [if_true]
      cases hf : (f q).isSome with
      | true => simp [h.mem q, hf, hy]
      | false => simp [hy]
    · simp only [if_neg hqy]
      cases hf : (f y).isSome with
      | true => exact h.mem q
      | false => simp [hqy, h.mem q]
  · rw [size_put hT, (h.at_ y hy).2, h.size]
    cases hf : (f y).isSome <;> simp
theorem IRead.del [DecidableEq α] {f : α → Option Int} {D : DataW Unit} {ks : List α} (h : IRead P K κ Ok f D ks) (hk : KeyT P K κ Ok) (hT : Tidy D) {y : α} (hy : Ok y) :
    IRead P K κ Ok (fun q => if q = y then none else f q) (D.del (KL P K κ y)) (ks.erase y) := by
  refine ⟨fun q hq => ?_, fun kl hl => ?_, h.nodup.erase _, fun q => ?_, ?_⟩
  · by_cases hqy : q = y
    · subst hqy
      simp only [if_true]
      exact ⟨by rw [atKey_del_same]; rfl, by rw [has_del_same]; rfl⟩
    · simp only [if_neg hqy]
      have hne := hk.ne hq hy hqy
      rw [atKey_del_other hne, has_del_other hne]
      exact h.at_ q hq
  · by_cases e : kl = KL P K κ y
    · rw [e, has_del_same] at hl
      cases hl
    · rw [has_del_other e] at hl
      exact h.all kl hl
  · rw [h.nodup.mem_erase_iff, h.mem q]
    by_cases hqy : q = y
    · simp [hqy]
    · simp [hqy]
  · have hs := size_del (k := KL P K κ y) hT
    rw [(h.at_ y hy).2, h.size] at hs
    cases hf : (f y).isSome with
    | true =>
      have hm : y ∈ ks := (h.mem y).2 ⟨hy, hf⟩
      have := List.length_pos_of_mem hm
      rw [List.length_erase_of_mem hm]
      rw [hf] at hs
      simp at hs
      omega
    | false =>
      have hm : y ∉ ks := fun hm => by have := (h.mem y).1 hm; rw [hf] at this; cases this.2
      rw [List.erase_of_not_mem hm]
      rw [hf] at hs
      simpa using hs
section
variable {ops : Array Oper} {rest : List Oper} {o : Oper} {a : Act} {Q : Exit → Act → World → Prop}
theorem wpList_get_i {f : α → Option Int} (hg : o.guard = none) (m x : Operand) (hop : o.op = Op.lookup T m x false) (hk : KeyT P K κ Ok) (ht : P.underlying T = some (.map K E)) (he : P.underlying E = some (.int .i64)) (hz : (zeroValue E).run P w = .ok (.int .i64 0) w)
    (hm : a.eval m = .map (some b)) (h : IMap w P K E κ Ok b n f) (y : α) (hy : Ok y) (hx : a.eval x = κ y) (hK : wpList P ops Q rest (a.put o.dst (.int .i64 ((f y).getD 0))) w) : wpList P ops Q (o :: rest) a w :=
  wpList_run_lookup hg m x false hop hm hx (h.look hk ht he hz hy) hK
theorem wpList_put_i [DecidableEq α] {f : α → Option Int} (hg : o.guard = none) (m x v : Operand) (hop : o.op = Op.mapUpdate T m x v) (hk : KeyT P K κ Ok) (ht : P.underlying T = some (.map K E)) (he : P.underlying E = some (.int .i64))
    (hm : a.eval m = .map (some b)) (h : IMap w P K E κ Ok b n f) (hn : n < maxLen) (y : α) (z : Int) (hy : Ok y) (hz : (Lit.int .i64 z).wf = true) (hx : a.eval x = κ y) (hv : a.eval v = .int .i64 z)
    (hK : ∀ w', IMap w' P K E κ Ok b (n + 1) (fun q => if q = y then some z else f q) → w.grownBy w' (some b) → wpList P ops Q rest (a.put o.dst undef) w') :
    wpList P ops Q (o :: rest) a w := by
  obtain ⟨D, ks, h1, h2⟩ := h
  have hkl := hk.some_ y hy
  exact wpList_mapUpdate_own w hg m x v T hop K E hk.keyed ht _ b n D hm h1 hn _ _ _ hx hv hkl (.lit (.int .i64 z)) [] (plainElem_int he hz) fun w' hw' hgr => by
    obtain ⟨ks', h3⟩ := h2.put hk (h1.tidy hk.keyed) hy z
    exact hK w' ⟨_, ks', hw', h3⟩ hgr
theorem wpList_del_i [DecidableEq α] {f : α → Option Int} (hg : o.guard = none) (m x : Operand) (hop : o.op = Op.call { callee := Callee.builtin Builtin.delete, args := #[m, x], argTypes := #[T, K] }) (hk : KeyT P K κ Ok) (ht : P.underlying T = some (.map K E))
    (hm : a.eval m = .map (some b)) (h : IMap w P K E κ Ok b n f) (y : α) (hy : Ok y) (hx : a.eval x = κ y)
    (hK : ∀ w', IMap w' P K E κ Ok b n (fun q => if q = y then none else f q) → w.mapTurned w' b → wpList P ops Q rest (a.put o.dst (.tuple #[])) w') :
    wpList P ops Q (o :: rest) a w := by
  obtain ⟨D, ks, h1, h2⟩ := h
  have hkl := hk.some_ y hy
  exact wpList_delete_own w hg m x T K hop E hk.keyed ht _ b n D hm h1 _ _ hx hkl fun w' hw' hgr => hK w' ⟨_, _, hw', h2.del hk (h1.tidy hk.keyed) hy⟩ hgr
theorem wpList_len_i {f : α → Option Int} (hg : o.guard = none) (m : Operand) (hop : o.op = Op.call { callee := Callee.builtin Builtin.len, args := #[m], argTypes := #[T] }) (ht : P.underlying T = some (.map K E))
    (hm : a.eval m = .map (some b)) (h : IMap w P K E κ Ok b n f) (hK : ∀ c : Nat, Keys Ok f c → c ≤ n → wpList P ops Q rest (a.put o.dst (.int .i64 c)) w) : wpList P ops Q (o :: rest) a w := by
  obtain ⟨D, ks, h1, h2⟩ := h
  exact wpList_len_own w hg m T hop K E ht _ b n D hm h1 (hK _ ⟨ks, h2.nodup, h2.mem, h2.size.symm⟩ h1.size_le)
/-- An entry that is to be written. -/
structure IPend (w1 : World) (P : Program) (K E T : TypeId) (κ : α → Value) (Ok : α → Prop) [DecidableEq α] (b st n : Nat) (f : α → Option Int) (y : α) : Prop where
  lt : b < w1.heap.size
  store : ∀ z : Int, (Lit.int .i64 z).wf = true → ∀ w2 : World, w2.heap[b]? = w1.heap[b]? → ∃ w', (Instr.entryStore T (.map (some b)) (goInt st) (.int .i64 z)).run P w2 = .ok () w' ∧ IMap w' P K E κ Ok b (n + 1) (fun q => if q = y then some z else f q) ∧ w2.grownBy w' (some b)
  look : ∀ w2 : World, w2.heap[b]? = w1.heap[b]? → (Instr.lookup T (.map (some b)) (κ y) false).run P w2 = .ok (.int .i64 ((f y).getD 0)) w2
theorem look_es {es1 : Array MapEntry} {clock1 : Nat} {key v0 : Value} {kl : Lit} (hk : Keyed P K) (ht : P.underlying T = some (.map K E)) (hkl : keyOf P K key = some kl) (hb1 : w.heap[b]? = some (.map es1 clock1)) (hkeys : ∀ e ∈ es1.toList, ∃ l, keyOf P K e.key = some l)
    (hex : ∃ e ∈ es1.toList, e.key = key) (hval : ∀ e ∈ es1.toList, e.key = key → e.val = v0) : (Instr.lookup T (.map (some b)) key false).run P w = .ok v0 w := by
  rcases hk.find w hkl es1.toList hkeys with ⟨-, g2⟩ | ⟨j, e0, g1, g2, g3⟩
  · obtain ⟨e, q1, q2⟩ := hex
    exact absurd q2 (g2 e q1)
  · have hv := hval e0 (List.mem_of_getElem? g2) g3
    simp [Instr.lookup, run_underlying ht, MapKept.run_getObj_map hb1, hk.check w _ hkl, g1, Result.andThen, hv]
theorem key_once : ∀ {l : List MapEntry} {x y : MapEntry}, (l.map (·.key)).Nodup → x ∈ l → y ∈ l → x.key = y.key → x = y
  | [], _, _, _, h, _, _ => by cases h
  | e :: l, x, y, hn, hx, hy, he => by
    simp only [List.map_cons, List.nodup_cons] at hn
    rcases List.mem_cons.1 hx with rfl | hx' <;> rcases List.mem_cons.1 hy with rfl | hy'
    · rfl
    · exact absurd (List.mem_map.2 ⟨y, hy', he.symm⟩) hn.1
    · exact absurd (List.mem_map.2 ⟨x, hx', he⟩) hn.1
    · exact key_once hn.2 hx' hy' he
theorem IMap.entry [DecidableEq α] {f : α → Option Int} (h : IMap w P K E κ Ok b n f) (hk : KeyT P K κ Ok) (hL : Go.WideMaps.KeyLaw P K) (ht : P.underlying T = some (.map K E)) (he : P.underlying E = some (.int .i64)) (hz : ∀ u : World, (zeroValue E).run P u = .ok (.int .i64 0) u)
    (hn : n < maxLen) (y : α) (hy : Ok y) :
    ∃ (st : Nat) (w1 : World), (Instr.mapEntry T (.map (some b)) (κ y)).run P w = .ok (.tuple #[.int .i64 ((f y).getD 0), goInt st]) w1 ∧ IPend w1 P K E T κ Ok b st n f y ∧ w.grownBy w1 (some b) ∧ w1.heap.size = w.heap.size := by
  obtain ⟨D, ks, h1, h2⟩ := h
  have hkl := hk.some_ y hy
  have hlook := IMap.look (T := T) (f := f) ⟨D, ks, h1, h2⟩ hk ht he (hz w) hy
  have hT := h1.tidy hk.keyed
  have hup := fun (z : Int) (hwf : (Lit.int .i64 z).wf = true) => h1.update hk.keyed ht hn hkl (plainElem_int (P := P) he hwf)
  obtain ⟨es, clock, hb, F, hs, hD⟩ := h1
  have hlt : b < w.heap.size := (Array.getElem?_eq_some_iff.1 hb).1
  obtain ⟨v0, st, es1, clock1, e1, e2, e3⟩ := Go.WideElems.entry_then_store hL ht hz hb F hkl
  have hv0 : v0 = .int .i64 ((f y).getD 0) ∧ ((∀ e ∈ es1.toList, ∃ l, keyOf P K e.key = some l) ∧ (∃ e ∈ es1.toList, e.key = κ y) ∧ ∀ e ∈ es1.toList, e.key = κ y → e.val = .int .i64 ((f y).getD 0)) := by
    rcases hk.keyed.find w hkl es.toList F.keys with ⟨g1, g2⟩ | ⟨j, e0, g1, g2, g3⟩
    · rcases e2 with ⟨e', q1, q2, -⟩ | ⟨-, q2⟩
      · exact absurd q2 (g2 e' q1)
      · have hrun : (Instr.mapEntry T (.map (some b)) (κ y)).run P w = .ok (.tuple #[.int .i64 0, goInt clock]) (Go.ChangeMaps.setBlock w b (.map (es.push ⟨κ y, .int .i64 0, clock⟩) (clock + 1))) := by
          simp [Instr.mapEntry, run_underlying ht, MapKept.run_getObj_map hb, hk.keyed.check w false hkl, g1, hz, MapKept.run_setObj_map _ hb, Result.andThen, Go.ChangeMaps.setBlock]
        have hes : es1 = es.push ⟨κ y, .int .i64 0, clock⟩ := by
          have h0 := e1.symm.trans hrun
          injection h0 with _ h0
          have h1 := Go.ChangeMaps.heap_setBlock_same hb (.map es1 clock1)
          rw [h0, Go.ChangeMaps.heap_setBlock_same hb] at h1
          injection h1 with h1
          injection h1 with h1 _
          exact h1.symm
        simp [Instr.lookup, run_underlying ht, MapKept.run_getObj_map hb, hk.keyed.check w _ hkl, g1, hz, Result.andThen] at hlook
        rw [q2, ← hlook, hes]
        refine ⟨rfl, fun e he => ?_, ⟨⟨κ y, .int .i64 0, clock⟩, by simp, rfl⟩, fun e he hek => ?_⟩
        · rw [Array.toList_push, List.mem_append] at he
          rcases he with he | he
          · exact F.keys e he
          · rw [List.mem_singleton.1 he]
            exact ⟨_, hkl⟩
        · rw [Array.toList_push, List.mem_append] at he
          rcases he with he | he
          · exact absurd hek (g2 e he)
          · rw [List.mem_singleton.1 he]
    · rcases e2 with ⟨e', q1, q2, q3⟩ | ⟨q1, -⟩
      · have g2' : es[j]? = some e0 := by rw [← Array.getElem?_toList]; exact g2
        have hsame : es.modify j (fun e => { e with key := κ y }) = es := by
          refine Array.ext_getElem? fun i => ?_
          rw [Array.getElem?_modify]
          split
          · rename_i hji
            subst hji
            rw [g2', ← g3]
            rfl
          · rfl
        have hrun : (Instr.mapEntry T (.map (some b)) (κ y)).run P w = .ok (.tuple #[e0.val, goInt e0.born]) (Go.ChangeMaps.setBlock w b (.map es clock)) := by
          simp [Instr.mapEntry, run_underlying ht, MapKept.run_getObj_map hb, hk.keyed.check w false hkl, g1, g2', g3, hk.keyed.stays w hkl, hsame, MapKept.run_setObj_map _ hb, Result.andThen, Go.ChangeMaps.setBlock]
        have hes : es1 = es := by
          have h0 := e1.symm.trans hrun
          injection h0 with _ h0
          have h1 := Go.ChangeMaps.heap_setBlock_same hb (.map es1 clock1)
          rw [h0, Go.ChangeMaps.heap_setBlock_same hb] at h1
          injection h1 with h1
          injection h1 with h1 _
          exact h1.symm
        have hu : ∀ e ∈ es.toList, e.key = κ y → e.val = .int .i64 ((f y).getD 0) := fun e he hek => by
          rw [key_once F.stamped.2.2 he (List.mem_of_getElem? g2) (hek.trans g3.symm)]
          simp [Instr.lookup, run_underlying ht, MapKept.run_getObj_map hb, hk.keyed.check w _ hkl, g1, Result.andThen] at hlook
          exact hlook
        rw [q3, hes]
        exact ⟨hu e' q1 q2, F.keys, ⟨e', q1, q2⟩, hu⟩
      · exact absurd g3 (q1 e0 (List.mem_of_getElem? g2))
  obtain ⟨hv0, k1, k2, k3⟩ := hv0
  subst hv0
  have hgr : w.grownBy (Go.ChangeMaps.setBlock w b (.map es1 clock1)) (some b) := ⟨rfl, rfl, rfl, by simp [Go.ChangeMaps.setBlock], fun i _ hi => Go.ChangeMaps.heap_setBlock_other hb _ (fun e => hi (by rw [e]))⟩
  refine ⟨st, _, e1, ⟨by simpa [Go.ChangeMaps.setBlock] using hlt, fun z hwf w2 hw2 => ?_, fun w2 hw2 => ?_⟩, hgr, by simp [Go.ChangeMaps.setBlock]⟩
  rotate_left
  · exact look_es hk.keyed ht hkl (by rw [hw2]; exact Go.ChangeMaps.heap_setBlock_same hb _) k1 k2 k3
  have hw2' : w2.heap[b]? = some (.map es1 clock1) := by rw [hw2]; exact Go.ChangeMaps.heap_setBlock_same hb _
  obtain ⟨es', clock', r1, r2⟩ := e3 w2 (.int .i64 z) hw2'
  obtain ⟨w', u1, u2, u3⟩ := hup z hwf
  have hww : w' = Go.ChangeMaps.setBlock w b (.map es' clock') := by
    have := r2.symm.trans u1
    injection this with _ this
    exact this.symm
  subst hww
  refine ⟨_, r1, ?_, ⟨rfl, rfl, rfl, by simp [Go.ChangeMaps.setBlock], fun i _ hi => Go.ChangeMaps.heap_setBlock_other hw2' _ (fun e => hi (by rw [e]))⟩⟩
  obtain ⟨ks', h3⟩ := h2.put hk hT hy z
  refine ⟨_, ks', ?_, h3⟩
  obtain ⟨es2, clock2, b1, b2⟩ := u2
  rw [Go.ChangeMaps.heap_setBlock_same hb] at b1
  cases b1
  exact ⟨es', clock', Go.ChangeMaps.heap_setBlock_same hw2' _, b2⟩
theorem wpList_entry_i [DecidableEq α] {f : α → Option Int} (hg : o.guard = none) (m x : Operand) (hop : o.op = Op.mapEntry T m x) (hk : KeyT P K κ Ok) (hL : Go.WideMaps.KeyLaw P K) (ht : P.underlying T = some (.map K E)) (he : P.underlying E = some (.int .i64)) (hz : ∀ u : World, (zeroValue E).run P u = .ok (.int .i64 0) u)
    (hm : a.eval m = .map (some b)) (h : IMap w P K E κ Ok b n f) (hn : n < maxLen) (y : α) (hy : Ok y) (hx : a.eval x = κ y)
    (hK : ∀ (st : Nat) (w1 : World), IPend w1 P K E T κ Ok b st n f y → w.grownBy w1 (some b) → w1.heap.size = w.heap.size → wpList P ops Q rest (a.put o.dst (.tuple #[.int .i64 ((f y).getD 0), goInt st])) w1) :
    wpList P ops Q (o :: rest) a w := by
  obtain ⟨st, w1, e1, h1, h2, h3⟩ := h.entry (T := T) hk hL ht he hz hn y hy
  refine wpList_plain hg fun K' hK' => ?_
  unfold Oper.wp
  simp [execOp, hop, hm, hx, e1, Result.andThen]
  exact hK' _ _ (hK st w1 h1 h2 h3)
theorem wpList_plook_i [DecidableEq α] {f : α → Option Int} {w1 : World} {st : Nat} {y : α} (hg : o.guard = none) (m x : Operand) (hop : o.op = Op.lookup T m x false)
    (hm : a.eval m = .map (some b)) (hx : a.eval x = κ y) (h : IPend w1 P K E T κ Ok b st n f y) (hw : w.heap[b]? = w1.heap[b]?) (hK : wpList P ops Q rest (a.put o.dst (.int .i64 ((f y).getD 0))) w) : wpList P ops Q (o :: rest) a w :=
  wpList_run_lookup hg m x false hop hm hx (h.look w hw) hK
theorem wpList_estore_i [DecidableEq α] {f : α → Option Int} {w1 : World} {st : Nat} {y : α} (hg : o.guard = none) (m s v : Operand) (hop : o.op = Op.entryStore T m s v)
    (hm : a.eval m = .map (some b)) (hs : a.eval s = goInt st) (h : IPend w1 P K E T κ Ok b st n f y) (hw : w.heap[b]? = w1.heap[b]?) (z : Int) (hz : (Lit.int .i64 z).wf = true) (hv : a.eval v = .int .i64 z)
    (hK : ∀ w', IMap w' P K E κ Ok b (n + 1) (fun q => if q = y then some z else f q) → w.grownBy w' (some b) → wpList P ops Q rest (a.put o.dst undef) w') :
    wpList P ops Q (o :: rest) a w := by
  obtain ⟨w', r1, r2, r3⟩ := h.store z hz w hw
  refine wpList_plain hg fun K' hK' => ?_
  unfold Oper.wp
  simp [execOp, hop, hm, hs, hv, r1, Result.andThen]
  exact hK' _ _ (hK w' r2 r3)
end
/-- A range over such a map under way: the keys that are still to come. -/
def IRng (w : World) (P : Program) (K E : TypeId) (κ : α → Value) (Ok : α → Prop) (b r n : Nat) (f : α → Option Int) (lf : α → Bool) (cnt : Nat) : Prop :=
  ∃ (D : DataW Unit) (left : Lit → Bool), w.ranges P K (plainElem P E) b r n D left cnt ∧ (∀ x, Ok x → D.atKey (KL P K κ x) (.lit (.int .i64 0)) = .lit (.int .i64 ((f x).getD 0)) ∧ Maps.has D (KL P K κ x) = (f x).isSome) ∧
    (∀ kl, Maps.has D kl = true → ∃ x, Ok x ∧ KL P K κ x = kl) ∧ (∀ kl, left kl = true → Maps.has D kl = true) ∧ ∀ x, Ok x → left (KL P K κ x) = lf x
section
variable {f : α → Option Int} {lf : α → Bool}
theorem IRng.kept {row : Option Nat} (h : IRng w P K E κ Ok b r n f lf cnt) (hg : w.grownBy w' row) (h1 : some b ≠ row) (h2 : some r ≠ row) : IRng w' P K E κ Ok b r n f lf cnt := by
  obtain ⟨D, left, h0, h3⟩ := h
  exact ⟨D, left, h0.kept hg h1 h2, h3⟩
theorem IRng.left_eq (h : IRng w P K E κ Ok b r n f lf cnt) : w.rangeLeft b r = cnt := by
  obtain ⟨D, left, h0, -⟩ := h
  exact h0.left_eq
theorem IRng.lt (h : IRng w P K E κ Ok b r n f lf cnt) : r < w.heap.size ∧ b < w.heap.size := by
  obtain ⟨D, left, h0, -⟩ := h
  exact ⟨h0.lt, h0.owns.lt⟩
theorem wpList_range_i {ops : Array Oper} {rest : List Oper} {o : Oper} {a : Act} {Q : Exit → Act → World → Prop} (hg : o.guard = none) (m : Operand) (hop : o.op = Op.range T m) (hk : KeyT P K κ Ok) (ht : P.underlying T = some (.map K E))
    (hm : a.eval m = .map (some b)) (h : IMap w P K E κ Ok b n f) (hr : w.heap.size = r)
    (hK : ∀ w' cnt, IRng w' P K E κ Ok b r n f (fun x => (f x).isSome) cnt → IMap w' P K E κ Ok b n f → cnt ≤ n → w.grownBy w' none → w'.heap.size = r + 1 → wpList P ops Q rest (a.put o.dst (.pointer (some ⟨r, 0, none⟩))) w') :
    wpList P ops Q (o :: rest) a w := by
  subst hr
  have h' := h
  obtain ⟨D, ks, h1, h2⟩ := h
  exact wpList_range_own w hg m T hop K E hk.keyed ht _ b n D hm h1 fun w' hr hgr hs => hK w' _ ⟨D, _, hr, h2.at_, h2.all, fun _ h => h, fun x hx => (h2.at_ x hx).2⟩ (h'.kept hgr (by simp)) (by obtain ⟨es, clock, hb, F, hs2, rfl⟩ := h1; rw [size_eq]; simpa [length_sorted] using hs2) hgr hs
theorem wpList_next_i [DecidableEq α] {ops : Array Oper} {rest : List Oper} {o : Oper} {a : Act} {Q : Exit → Act → World → Prop} (hg : o.guard = none) (it : Operand) (hop : o.op = Op.next it false) (hk : KeyT P K κ Ok) (he : P.underlying E = some (.int .i64))
    (hit : a.eval it = .pointer (some ⟨r, 0, none⟩)) (h : IRng w P K E κ Ok b r n f lf cnt)
    (hDone : (∀ x, Ok x → lf x = false) → wpList P ops Q rest (a.put o.dst (.tuple #[.bool false])) w)
    (hMore : ∀ (x : α) (c : Int) (w' : World) (cnt' : Nat), Ok x → lf x = true → f x = some c → IRng w' P K E κ Ok b r n f (fun z => lf z && !decide (z = x)) cnt' → cnt' < cnt → w.grownBy w' (some r) → w'.heap.size = w.heap.size →
      (Instr.entry (.pointer (some ⟨r, 0, none⟩))).run P w' = .ok (.tuple #[κ x, .int .i64 c]) w' → wpList P ops Q rest (a.put o.dst (.tuple #[.bool true, κ x, .int .i64 c])) w') :
    wpList P ops Q (o :: rest) a w := by
  obtain ⟨D, left, h0, h1, h2, h3, h4⟩ := h
  refine wpList_next_ranges (α := Value) (β := Int) w hg it hop K hk.keyed (plainElem P E) id (Value.int .i64) (fun key kl _ => ⟨key, rfl⟩) (fun v y hv => by obtain ⟨c, rfl, -⟩ := plainElem_int_inv he hv; exact ⟨c, rfl⟩) b r n D left cnt hit h0
    (fun _ hl => hDone fun x hx => by rw [← h4 x hx]; exact hl _) ?_
  intro key c kl y w' cnt' hkey hl hv hat hrg hlt hgr hs hen
  obtain ⟨x, hx, rfl⟩ := h2 kl (h3 kl hl)
  have hkx := hk.some_ x hx
  obtain rfl : key = κ x := hk.keyed.inj hkey hkx
  obtain ⟨c', e, hy, -⟩ := plainElem_int_inv he hv
  injection e with _ e
  subst e
  have hfx : f x = some c := by
    have a1 := (h1 x hx).1
    have a2 := (h1 x hx).2
    rw [h3 _ hl] at a2
    rw [hat] at a1
    rw [congrArg Prod.fst hy] at a1
    obtain ⟨v, hv⟩ := Option.isSome_iff_exists.1 a2.symm
    rw [hv] at a1 ⊢
    simp at a1
    rw [a1]
  refine hMore x c w' cnt' hx (by rw [← h4 x hx]; exact hl) hfx ⟨D, _, hrg, h1, h2, ?_, ?_⟩ hlt hgr hs hen
  · intro kl h
    simp only [Bool.and_eq_true] at h
    exact h3 kl h.1
  · intro z hz
    rw [h4 z hz]
    congr 2
    by_cases e : z = x
    · subst e
      rw [decide_eq_true rfl]
      exact WideAt.sameKey_self (hk.keyed.key (hk.some_ z hz))
    · rw [decide_eq_false e]
      exact sameKey_ne (hk.ne hz hx e)
end
end

end Go.Proofs.Ytmcefodfppdajaa
