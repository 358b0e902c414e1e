/- Symbolic memory: blocks by name, and how they lie in a world. No program is named here. -/
import Derived.Test.YtfnphhmcbdoojaaGreatDoorSimT
import Derived.Laws.CopyRow
import Derived.Laws.AppendOwn
import Derived.RangeFuncRecord
import Derived.WideShapes
set_option linter.unusedSimpArgs false
namespace Go.Proofs.YtfnphhmcbdoojaaGreatDoor.Sim
open Go Go.RowKit Go.WideShapes

noncomputable section

inductive SObj where
  | cells (xs : List Value) (t : TypeId)
  | map (es : List (Value × Value × Nat)) (clock : Nat)
  | dead
def isDead : SObj → Bool
  | .dead => true
  | _ => false
abbrev Heap := List (Nat × SObj)
def hget (H : Heap) (b : Nat) : Option SObj := List.rec (motive := fun _ => Option SObj) none (fun e _ ih => Bool.rec ih (some e.2) (Nat.beq e.1 b)) H
theorem hget_nil (b : Nat) : hget [] b = none := rfl
theorem hget_eq (k : Nat) (o : SObj) (r : Heap) (b : Nat) : hget ((k, o) :: r) b = match Nat.beq k b with
    | true => some o
    | false => hget r b := by
  show (Bool.rec (hget r b) (some o) (Nat.beq k b) : Option SObj) = _
  cases Nat.beq k b <;> rfl
def hset (H : Heap) (b : Nat) (o' : SObj) : Heap := List.rec (motive := fun _ => Heap) [] (fun e r ih => Bool.rec (e :: ih) ((e.1, o') :: r) (Nat.beq e.1 b)) H
theorem hset_eq (k : Nat) (o : SObj) (r : Heap) (b : Nat) (o' : SObj) : hset ((k, o) :: r) b o' = match Nat.beq k b with
    | true => (k, o') :: r
    | false => (k, o) :: hset r b o' := by
  show (Bool.rec ((k, o) :: hset r b o') ((k, o') :: r) (Nat.beq k b) : Heap) = _
  cases Nat.beq k b <;> rfl
def hins : Heap → Nat → SObj → Heap
  | [], b, o => [(b, o)]
  | (k, o) :: r, b, o' => match Nat.ble k b with
    | true => (b, o') :: (k, o) :: r
    | false => (k, o) :: hins r b o'
theorem beq_of (a b : Nat) : (Nat.beq a b = true ↔ a = b) := ⟨Nat.eq_of_beq_eq_true, fun h => by subst h; exact Nat.beq_refl a⟩
theorem hget_hset_same : ∀ {H : Heap} {b : Nat} {o o' : SObj}, hget H b = some o → hget (hset H b o') b = some o'
  | [], _, _, _, h => by simp [hget_nil, hget_eq] at h
  | (k, o) :: r, b, _, o', h => by
    simp only [hget_nil, hget_eq] at h
    simp only [hset_eq]
    cases hk : Nat.beq k b with
    | true => simp only [hget_nil, hget_eq, hk]
    | false =>
      rw [hk] at h
      simp only [hget_nil, hget_eq, hk]
      exact hget_hset_same h
theorem hget_hset_other : ∀ {H : Heap} {b c : Nat} {o' : SObj}, c ≠ b → hget (hset H b o') c = hget H c
  | [], _, _, _, _ => rfl
  | (k, o) :: r, b, c, o', h => by
    simp only [hset_eq]
    cases hk : Nat.beq k b with
    | true =>
      have hkb := (beq_of _ _).1 hk
      have hkc : Nat.beq k c = false := by
        cases hc : Nat.beq k c with
        | false => rfl
        | true => exact absurd ((beq_of _ _).1 hc) (by omega)
      simp only [hget_nil, hget_eq, hkc]
    | false =>
      simp only [hget_nil, hget_eq]
      cases hc : Nat.beq k c with
      | true => rfl
      | false => exact hget_hset_other h
theorem hget_hins_same : ∀ {H : Heap} {b : Nat} {o' : SObj}, hget H b = none → hget (hins H b o') b = some o'
  | [], b, _, _ => by simp [hins, hget_nil, hget_eq, Nat.beq_refl]
  | (k, o) :: r, b, o', h => by
    simp only [hget_nil, hget_eq] at h
    simp only [hins]
    cases hk : Nat.beq k b with
    | true => rw [hk] at h; cases h
    | false =>
      rw [hk] at h
      cases hl : Nat.ble k b with
      | true => simp only [hget_nil, hget_eq, Nat.beq_refl]
      | false =>
        simp only [hget_nil, hget_eq, hk]
        exact hget_hins_same h
theorem hget_hins_other : ∀ {H : Heap} {b c : Nat} {o' : SObj}, c ≠ b → hget (hins H b o') c = hget H c
  | [], b, c, _, h => by
    have : Nat.beq b c = false := by
      cases hc : Nat.beq b c with
      | false => rfl
      | true => exact absurd ((beq_of _ _).1 hc).symm h
    simp only [hins, hget_nil, hget_eq, this]
  | (k, o) :: r, b, c, o', h => by
    have hbc : Nat.beq b c = false := by
      cases hc : Nat.beq b c with
      | false => rfl
      | true => exact absurd ((beq_of _ _).1 hc).symm h
    simp only [hins]
    cases hl : Nat.ble k b with
    | true => simp only [hget_nil, hget_eq, hbc]
    | false =>
      simp only [hget_nil, hget_eq]
      cases hc : Nat.beq k c with
      | true => rfl
      | false => exact hget_hins_other h

/-- Entries of a map. -/
def ER (ρ : Rn) (es : List (Value × Value × Nat)) (fs : List MapEntry) : Prop :=
  es.length = fs.length ∧ ∀ (i : Nat) (e : Value × Value × Nat) (f : MapEntry), es[i]? = some e → fs[i]? = some f → f.key = e.1 ∧ VR ρ e.2.1 f.val ∧ f.born = e.2.2
def szOf (P : Program) (t : TypeId) : Nat := ((P.info? t).map (·.size)).getD 0
def OR (P : Program) (ρ : Rn) (W : World) (L : Loc) : SObj → Prop
  | .cells xs t => L.sz = szOf P t ∧ ∃ cs, W.heap[L.x]? = some (.cells cs t (0, 0)) ∧ cs.size = L.s + L.n ∧ xs.length ≤ L.n ∧ ∀ (i : Nat) (v : Value), xs[i]? = some v → ∃ v', cs[L.s + i]? = some v' ∧ VR ρ v v'
  | .map es k => ∃ fs, W.heap[L.x]? = some (.map fs k) ∧ ER ρ es fs.toList
  | .dead => True
structure HR (P : Program) (n0 : Nat) (ρ : Rn) (H : Heap) (W : World) : Prop where
  dom : ∀ b L, ρ b = some L → (hget H b).isSome = true
  obj : ∀ b o, hget H b = some o → ∃ L, ρ b = some L ∧ n0 ≤ L.x ∧ L.x < W.heap.size ∧ OR P ρ W L o
  inj : ∀ b b' o o' L L', hget H b = some o → hget H b' = some o' → isDead o = false → isDead o' = false → ρ b = some L → ρ b' = some L' → L.x = L'.x → b = b'
/-- What a step has done. -/
structure Okay (P : Program) (n0 : Nat) (ρ : Rn) (H : Heap) (W : World) (H' : Heap) (wr : List Nat) (ρ' : Rn) (W' : World) : Prop where
  ext : Ext ρ ρ'
  hr : HR P n0 ρ' H' W'
  below : Below n0 W W'
  fr : ∀ b o L, hget H b = some o → isDead o = false → b ∉ wr → ρ b = some L → hget H' b = some o ∧ W'.heap[L.x]? = W.heap[L.x]?
  fr1 : ∀ b o, hget H b = some o → b ∉ wr → hget H' b = some o

theorem OR.mono {P : Program} {ρ ρ' : Rn} {W W' : World} {L : Loc} {o : SObj} (h : OR P ρ W L o) (hx : Ext ρ ρ') (hw : W'.heap[L.x]? = W.heap[L.x]?) : OR P ρ' W' L o := by
  cases o with
  | cells xs t =>
    obtain ⟨h0, cs, h1, h2, h3, h4⟩ := h
    exact ⟨h0, cs, hw.trans h1, h2, h3, fun i v hv => by obtain ⟨v', a, b⟩ := h4 i v hv; exact ⟨v', a, b.mono hx⟩⟩
  | map es k =>
    obtain ⟨fs, h1, h2, h3⟩ := h
    exact ⟨fs, hw.trans h1, h2, fun i e f a b => by obtain ⟨x, y, z⟩ := h3 i e f a b; exact ⟨x, y.mono hx, z⟩⟩
  | dead => trivial
theorem Okay.refl {P : Program} {n0 : Nat} {ρ : Rn} {H : Heap} {W : World} (h : HR P n0 ρ H W) : Okay P n0 ρ H W H [] ρ W := ⟨Ext.refl _, h, Below.refl _ _, fun _ _ _ a _ _ _ => ⟨a, rfl⟩, fun _ _ a _ => a⟩
theorem HR.drew {P : Program} {n0 : Nat} {ρ : Rn} {H : Heap} {W : World} (h : HR P n0 ρ H W) : HR P n0 ρ H W.drew := ⟨h.dom, fun b o a => by
  obtain ⟨L, h1, h2, h3, h4⟩ := h.obj b o a
  exact ⟨L, h1, h2, h3, h4.mono (Ext.refl _) rfl⟩, h.inj⟩
theorem Okay.trans {P : Program} {n0 : Nat} {ρ ρ1 ρ2 : Rn} {H H1 H2 : Heap} {W W1 W2 : World} {wr wr1 : List Nat} (h : Okay P n0 ρ H W H1 wr ρ1 W1) (k : Okay P n0 ρ1 H1 W1 H2 wr1 ρ2 W2) : Okay P n0 ρ H W H2 (wr ++ wr1) ρ2 W2 :=
  ⟨h.ext.trans k.ext, k.hr, h.below.trans k.below, fun b o L a hd hn hL => by
    simp only [List.mem_append, not_or] at hn
    obtain ⟨x, y⟩ := h.fr b o L a hd hn.1 hL
    obtain ⟨x2, y2⟩ := k.fr b o L x hd hn.2 (h.ext _ _ hL)
    exact ⟨x2, y2.trans y⟩, fun b o a hn => by
    simp only [List.mem_append, not_or] at hn
    exact k.fr1 b o (h.fr1 b o a hn.1) hn.2⟩
theorem Okay.wr_sub {P : Program} {n0 : Nat} {ρ ρ1 : Rn} {H H1 : Heap} {W W1 : World} {wr wr' : List Nat} (h : Okay P n0 ρ H W H1 wr ρ1 W1) (hs : ∀ b, b ∈ wr → b ∈ wr') : Okay P n0 ρ H W H1 wr' ρ1 W1 :=
  ⟨h.ext, h.hr, h.below, fun b o L a hd hn hL => h.fr b o L a hd (fun hb => hn (hs b hb)) hL, fun b o a hn => h.fr1 b o a (fun hb => hn (hs b hb))⟩

/-- A new block. -/
theorem HR.alloc {P : Program} {n0 : Nat} {ρ : Rn} {H : Heap} {W : World} (h : HR P n0 ρ H W) (h0 : n0 ≤ W.heap.size) {b : Nat} (hb : hget H b = none) (o : SObj) (O : Obj) (N sz : Nat)
    (hO : ∀ ρ' : Rn, Ext ρ ρ' → OR P ρ' (W.alloc O) ⟨W.heap.size, 0, N, sz⟩ o) :
    ∃ ρ', ρ' b = some ⟨W.heap.size, 0, N, sz⟩ ∧ Okay P n0 ρ H W (hins H b o) [] ρ' (W.alloc O) := by
  have hρ : ρ b = none := by
    cases hr : ρ b with
    | none => rfl
    | some L => have := h.dom b L hr; rw [hb] at this; cases this
  have hx : Ext ρ (fun k => if k = b then some ⟨W.heap.size, 0, N, sz⟩ else ρ k) := fun k L hk => by
    by_cases e : k = b
    · subst e; rw [hρ] at hk; cases hk
    · simp [e, hk]
  have hold : ∀ k o', hget H k = some o' → k ≠ b := fun k o' hk e => by subst e; rw [hb] at hk; cases hk
  refine ⟨fun k => if k = b then some ⟨W.heap.size, 0, N, sz⟩ else ρ k, by simp, hx, ⟨?_, ?_, ?_⟩, (Below.refl _ _).alloc h0 _, fun k o' L hk hd _ hL => ⟨?_, ?_⟩, fun k o' hk _ => by rw [hget_hins_other (hold k o' hk)]; exact hk⟩
  · intro k L hk
    by_cases e : k = b
    · subst e; rw [hget_hins_same hb]; rfl
    · rw [hget_hins_other e]; simp [e] at hk; exact h.dom k L hk
  · intro k o' hk
    by_cases e : k = b
    · subst e
      rw [hget_hins_same hb] at hk
      cases hk
      exact ⟨_, by simp, h0, by simp, hO _ hx⟩
    · rw [hget_hins_other e] at hk
      obtain ⟨L, h1, h2, h3, h4⟩ := h.obj k o' hk
      exact ⟨L, by simp [e, h1], h2, by simp; omega, h4.mono hx (Below.heap_alloc W O _ h3)⟩
  · intro k k' o1 o2 L L' hk hk' hd hd' hL hL' he
    by_cases e : k = b
    · by_cases e' : k' = b
      · rw [e, e']
      · rw [hget_hins_other e'] at hk'
        simp [e] at hL
        simp [e'] at hL'
        obtain ⟨L2, h1, h2, h3, h4⟩ := h.obj k' _ hk'
        rw [hL'] at h1
        cases h1
        subst hL
        simp at he
        omega
    · by_cases e' : k' = b
      · rw [hget_hins_other e] at hk
        simp [e] at hL
        simp [e'] at hL'
        obtain ⟨L2, h1, h2, h3, h4⟩ := h.obj k _ hk
        rw [hL] at h1
        cases h1
        subst hL'
        simp at he
        omega
      · rw [hget_hins_other e] at hk
        rw [hget_hins_other e'] at hk'
        simp [e] at hL
        simp [e'] at hL'
        exact h.inj k k' o1 o2 L L' hk hk' hd hd' hL hL' he
  · rw [hget_hins_other (hold k o' hk)]
    exact hk
  · obtain ⟨L2, h1, h2, h3, h4⟩ := h.obj k _ hk
    rw [hL] at h1
    cases h1
    exact Below.heap_alloc W O _ h3
theorem HR.alloc_cells {P : Program} {n0 : Nat} {ρ : Rn} {H : Heap} {W : World} (h : HR P n0 ρ H W) (h0 : n0 ≤ W.heap.size) {b : Nat} (hb : hget H b = none) {xs ys : List Value} (hl : LR ρ xs ys) (t : TypeId) (more : List Value) :
    ∃ ρ', ρ' b = some ⟨W.heap.size, 0, ys.length + more.length, szOf P t⟩ ∧ Okay P n0 ρ H W (hins H b (.cells xs t)) [] ρ' (W.alloc (.cells (ys ++ more).toArray t)) :=
  h.alloc h0 hb (.cells xs t) (.cells (ys ++ more).toArray t) _ (szOf P t) fun ρ' hx =>
    ⟨rfl, (ys ++ more).toArray, World.alloc_heap_new W _, by simp, by rw [hl.1]; simp, fun i v hv => by
      obtain ⟨v', a, b⟩ := hl.get hv
      refine ⟨v', ?_, b.mono hx⟩
      have : i < ys.length := (List.getElem?_eq_some_iff.1 a).1
      simp [List.getElem?_append_left this, a]⟩

def ovl (xs : List Value) (o : Nat) (vs : List Value) : List Value := xs.take o ++ vs ++ xs.drop (o + vs.length)
theorem ovl_length {xs vs : List Value} {o : Nat} (h : o + vs.length ≤ xs.length) : (ovl xs o vs).length = xs.length := by
  simp [ovl]
  omega
theorem ovl_get {xs vs : List Value} {o : Nat} (h : o + vs.length ≤ xs.length) (i : Nat) : (ovl xs o vs)[i]? = if o ≤ i ∧ i < o + vs.length then vs[i - o]? else xs[i]? := by
  unfold ovl
  by_cases h1 : i < o
  · rw [if_neg (by omega), List.getElem?_append_left (by simp; omega), List.getElem?_append_left (by simp; omega), List.getElem?_take, if_pos h1]
  · by_cases h2 : i < o + vs.length
    · rw [if_pos (by omega), List.getElem?_append_left (by simp; omega), List.getElem?_append_right (by simp; omega)]
      congr 1
      simp
      omega
    · rw [if_neg (by omega), List.getElem?_append_right (by simp; omega), List.getElem?_drop]
      congr 1
      simp
      omega
/-- A store into a block. -/
theorem HR.store {P : Program} {n0 : Nat} {ρ : Rn} {H : Heap} {W : World} (h : HR P n0 ρ H W) {b o : Nat} {xs : List Value} {t : TypeId} (hb : hget H b = some (.cells xs t)) {L : Loc} (hL : ρ b = some L) {vs vs' : List Value}
    (ho : o + vs.length ≤ xs.length) (hv : LR ρ vs vs') :
    ∃ cs : Array Value, W.heap[L.x]? = some (.cells cs t (0, 0)) ∧ L.s + o + vs'.length ≤ cs.size ∧
      Okay P n0 ρ H W (hset H b (.cells (ovl xs o vs) t)) [b] ρ (W.setRow L.x (cs.toList.take (L.s + o) ++ vs' ++ cs.toList.drop (L.s + o + vs'.length)).toArray) := by
  obtain ⟨L2, h1, h2, h3, g0, cs, g1, g2, g3, g4⟩ := h.obj b _ hb
  rw [hL] at h1
  cases h1
  have hvl := hv.1
  have hfit : L.s + o + vs'.length ≤ cs.toList.length := by simp; omega
  refine ⟨cs, g1, by simpa using hfit, Ext.refl _, ⟨?_, ?_, ?_⟩, ⟨rfl, rfl, rfl, by simp, fun k hk => setRow_other W _ k _ (by omega)⟩, ?_, fun k o' hk hn => by simp at hn; rw [hget_hset_other hn]; exact hk⟩
  · intro k L' hk
    by_cases e : k = b
    · subst e; rw [hget_hset_same hb]; rfl
    · rw [hget_hset_other e]; exact h.dom k L' hk
  · intro k o' hk
    by_cases e : k = b
    · subst e
      rw [hget_hset_same hb] at hk
      cases hk
      refine ⟨L, hL, h2, by simpa using h3, g0, _, setRow_heap W L.x cs _ t (0, 0) g1, ?_, by rw [ovl_length ho]; exact g3, ?_⟩
      · have := ovl_length (xs := cs.toList) (vs := vs') (o := L.s + o) (by omega)
        unfold ovl at this
        rw [List.size_toArray, this]
        simpa using g2
      · intro i v hi
        rw [ovl_get ho] at hi
        have e2 := ovl_get (xs := cs.toList) (vs := vs') (o := L.s + o) (by omega) (L.s + i)
        unfold ovl at e2
        rw [List.getElem?_toArray, e2]
        by_cases hin : o ≤ i ∧ i < o + vs.length
        · rw [if_pos hin] at hi
          rw [if_pos (by omega)]
          obtain ⟨v', a, b⟩ := hv.get hi
          exact ⟨v', by rw [show L.s + i - (L.s + o) = i - o from by omega]; exact a, b⟩
        · rw [if_neg hin] at hi
          rw [if_neg (by omega)]
          obtain ⟨v', a, b⟩ := g4 i v hi
          exact ⟨v', by simpa using a, b⟩
    · rw [hget_hset_other e] at hk
      obtain ⟨L', k1, k2, k3, k4⟩ := h.obj k o' hk
      refine ⟨L', k1, k2, by simpa using k3, ?_⟩
      cases hd : isDead o' with
      | true => cases o' <;> first | trivial | cases hd
      | false => exact k4.mono (Ext.refl _) (setRow_other W _ _ _ fun e' => e (h.inj k b o' _ L' L hk hb hd rfl k1 hL e'))
  · intro k k' o1 o2 M M' hk hk' hd hd' hM hM' he
    have lift : ∀ j oj, hget (hset H b (.cells (ovl xs o vs) t)) j = some oj → isDead oj = false → ∃ oj', hget H j = some oj' ∧ isDead oj' = false := fun j oj hj hdj => by
      by_cases e : j = b
      · subst e; exact ⟨_, hb, rfl⟩
      · rw [hget_hset_other e] at hj; exact ⟨oj, hj, hdj⟩
    obtain ⟨p1, q1, r1⟩ := lift k o1 hk hd
    obtain ⟨p2, q2, r2⟩ := lift k' o2 hk' hd'
    exact h.inj k k' p1 p2 M M' q1 q2 r1 r2 hM hM' he
  · intro k o' M hk hd hn hM
    simp at hn
    rw [hget_hset_other hn]
    exact ⟨hk, setRow_other W _ _ _ fun e' => hn (h.inj k b o' _ M L hk hb hd rfl hM hL e')⟩
/-- A load. -/
theorem HR.cells {P : Program} {n0 : Nat} {ρ : Rn} {H : Heap} {W : World} (h : HR P n0 ρ H W) {b : Nat} {xs : List Value} {t : TypeId} (hb : hget H b = some (.cells xs t)) {L : Loc} (hL : ρ b = some L) (o n : Nat) (ho : o + n ≤ xs.length) :
    ∃ ys : List Value, LR ρ ((xs.drop o).take n) ys ∧ ys.length = n ∧ (∀ (j : Nat) (v : Value), ys[j]? = some v → W.cell? ((⟨L.x, L.s + o, none⟩ : Addr).add j) = some v) := by
  obtain ⟨L2, h1, h2, h3, g0, cs, g1, g2, g3, g4⟩ := h.obj b _ hb
  rw [hL] at h1
  cases h1
  have hlen : ((cs.toList.drop (L.s + o)).take n).length = n := by simp; omega
  refine ⟨(cs.toList.drop (L.s + o)).take n, ⟨by rw [hlen]; simp; omega, ?_⟩, hlen, ?_⟩
  · intro i v v' a c
    rw [List.getElem?_take, List.getElem?_drop] at a c
    by_cases hin : i < n
    · rw [if_pos hin] at a c
      obtain ⟨v2, p, q⟩ := g4 (o + i) v a
      rw [Array.getElem?_toList, show L.s + o + i = L.s + (o + i) from by omega, p] at c
      cases c
      exact q
    · rw [if_neg hin] at a
      cases a
  · intro j v hv
    rw [List.getElem?_take, List.getElem?_drop] at hv
    by_cases hin : j < n
    · rw [if_pos hin, Array.getElem?_toList] at hv
      rw [add_plain, cell_of_row W L.x _ cs t (0, 0) g1]
      exact hv
    · rw [if_neg hin] at hv
      cases hv

end
end Go.Proofs.YtfnphhmcbdoojaaGreatDoor.Sim
