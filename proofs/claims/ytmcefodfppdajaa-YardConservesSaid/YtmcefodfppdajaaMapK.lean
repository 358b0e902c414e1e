/- Maps that the call makes, keyed by structs, arrays or numbers, with numbers or truth values as elements: as functions of the key. No program is named here. -/
import Derived.Test.YtmcefodfppdajaaCells
import Derived.Maps.OwnSet
import Derived.Maps.OwnOps
import Derived.DeepKeys4
import Derived.MapViews
namespace Go.Proofs.Ytmcefodfppdajaa
open Go.RowKit Go.Maps

/-- What a key reads as. -/
noncomputable def KL {α : Type} (P : Program) (K : TypeId) (κ : α → Value) (x : α) : Lit := (keyOf P K (κ x)).getD (.bool false)
/-- How elements of α are keys of type K. -/
structure KeyT {α : Type} (P : Program) (K : TypeId) (κ : α → Value) (Ok : α → Prop) : Prop where
  keyed : Keyed P K
  some_ : ∀ x, Ok x → keyOf P K (κ x) = some (KL P K κ x)
  inj : ∀ x y, κ x = κ y → x = y
section
variable {α : Type} {P : Program} {K E T : TypeId} {κ : α → Value} {Ok : α → Prop} {w w' : World} {b n : Nat}
theorem KeyT.ne (h : KeyT P K κ Ok) {x y : α} (hx : Ok x) (hy : Ok y) (hne : x ≠ y) : KL P K κ x ≠ KL P K κ y := fun e =>
  hne (h.inj _ _ (h.keyed.inj (h.some_ x hx) (by rw [e]; exact h.some_ y hy)))

/-- A map with numbers as elements. -/
def IntMap (w : World) (P : Program) (K E : TypeId) (κ : α → Value) (Ok : α → Prop) (b n : Nat) (f : α → Option Int) : Prop :=
  ∃ D : DataW Unit, w.ownsMap P K (plainElem P E) b n D ∧ ∀ x, Ok x → D.atKey (KL P K κ x) (.lit (.int .i64 0)) = .lit (.int .i64 ((f x).getD 0)) ∧ Maps.has D (KL P K κ x) = (f x).isSome
/-- A map with truth values as elements. -/
def BoolMap (w : World) (P : Program) (K E : TypeId) (κ : α → Value) (Ok : α → Prop) (b n : Nat) (f : α → Bool) : Prop :=
  ∃ D : DataW Unit, w.ownsMap P K (plainElem P E) b n D ∧ ∀ x, Ok x → D.atKey (KL P K κ x) (.lit (.bool false)) = .lit (.bool (f x))

theorem IntMap.made (w : World) : IntMap (w.alloc (.map #[] 0)) P K E κ Ok w.heap.size 0 (fun _ => none) :=
  ⟨.map [], World.ownsMap_made w P K _, fun _ _ => ⟨rfl, rfl⟩⟩
theorem BoolMap.made (w : World) : BoolMap (w.alloc (.map #[] 0)) P K E κ Ok w.heap.size 0 (fun _ => false) :=
  ⟨.map [], World.ownsMap_made w P K _, fun _ _ => rfl⟩
theorem IntMap.lt {f : α → Option Int} (h : IntMap w P K E κ Ok b n f) : b < w.heap.size := by obtain ⟨D, h1, -⟩ := h; exact h1.lt
theorem BoolMap.lt {f : α → Bool} (h : BoolMap w P K E κ Ok b n f) : b < w.heap.size := by obtain ⟨D, h1, -⟩ := h; exact h1.lt
theorem IntMap.kept {f : α → Option Int} {row : Option Nat} (h : IntMap w P K E κ Ok b n f) (hg : w.grownBy w' row) (hne : some b ≠ row) : IntMap w' P K E κ Ok b n f := by
  obtain ⟨D, h1, h2⟩ := h
  exact ⟨D, h1.kept hg hne, h2⟩
theorem BoolMap.kept {f : α → Bool} {row : Option Nat} (h : BoolMap w P K E κ Ok b n f) (hg : w.grownBy w' row) (hne : some b ≠ row) : BoolMap w' P K E κ Ok b n f := by
  obtain ⟨D, h1, h2⟩ := h
  exact ⟨D, h1.kept hg hne, h2⟩
theorem below_grown {D : Nat} (hb : Below D w w') (hg : ∀ k, k < w.heap.size → D ≤ k → w'.heap[k]? = w.heap[k]?) : w.grownBy w' none :=
  ⟨hb.os, hb.tape, hb.output, hb.size, fun k hk _ => by
    rcases Nat.lt_or_ge k D with h | h
    · exact hb.block k h
    · exact hg k hk h⟩
theorem grown_of_below (hb : Below w.heap.size w w') : w.grownBy w' none := below_grown hb (fun k h1 h2 => absurd h1 (by omega))
theorem IntMap.below {f : α → Option Int} (h : IntMap w P K E κ Ok b n f) (hb : Below w.heap.size w w') : IntMap w' P K E κ Ok b n f := h.kept (grown_of_below hb) (by simp)
theorem BoolMap.below {f : α → Bool} (h : BoolMap w P K E κ Ok b n f) (hb : Below w.heap.size w w') : BoolMap w' P K E κ Ok b n f := h.kept (grown_of_below hb) (by simp)
theorem IntMap.alloc {f : α → Option Int} (h : IntMap w P K E κ Ok b n f) (o : Obj) : IntMap (w.alloc o) P K E κ Ok b n f := h.kept (World.grownBy_alloc w o none) (by simp)
theorem BoolMap.alloc {f : α → Bool} (h : BoolMap w P K E κ Ok b n f) (o : Obj) : BoolMap (w.alloc o) P K E κ Ok b n f := h.kept (World.grownBy_alloc w o none) (by simp)
theorem IntMap.setCell {f : α → Option Int} (h : IntMap w P K E κ Ok b n f) {p : Addr} (hp : b ≠ p.block) (u : Value) : IntMap (w.setCell p u) P K E κ Ok b n f := by
  obtain ⟨D, h1, h2⟩ := h
  exact ⟨D, h1.setCell hp u, h2⟩
theorem BoolMap.setCell {f : α → Bool} (h : BoolMap w P K E κ Ok b n f) {p : Addr} (hp : b ≠ p.block) (u : Value) : BoolMap (w.setCell p u) P K E κ Ok b n f := by
  obtain ⟨D, h1, h2⟩ := h
  exact ⟨D, h1.setCell hp u, h2⟩

/-- Look-ups, as equations that a walk takes. -/
theorem IntMap.look {f : α → Option Int} (h : IntMap w P K E κ Ok b n f) (hk : KeyT P K κ Ok) (ht : P.underlying T = some (.map K E)) (he : P.underlying E = some (.int .i64)) (hz : (zeroValue E).run P w = .ok (.int .i64 0) w) {x : α} (hx : Ok x) :
    (Instr.lookup T (.map (some b)) (κ x) false).run P w = .ok (.int .i64 ((f x).getD 0)) w := by
  obtain ⟨D, h1, h2⟩ := h
  obtain ⟨c, hrun, hat, -⟩ := h1.lookup_int hk.keyed ht he hz (hk.some_ x hx)
  rw [(h2 x hx).1] at hat
  have e : (f x).getD 0 = c := by simpa using hat
  rw [e]
  exact hrun
theorem IntMap.look_ok {f : α → Option Int} (h : IntMap w P K E κ Ok b n f) (hk : KeyT P K κ Ok) (ht : P.underlying T = some (.map K E)) (he : P.underlying E = some (.int .i64)) (hz : (zeroValue E).run P w = .ok (.int .i64 0) w) {x : α} (hx : Ok x) :
    (Instr.lookup T (.map (some b)) (κ x) true).run P w = .ok (.tuple #[.int .i64 ((f x).getD 0), .bool (f x).isSome]) w := by
  obtain ⟨D, h1, h2⟩ := h
  obtain ⟨v, ps, hrun, hv⟩ := h1.look_ok hk.keyed ht hz (plainElem_int he (by decide)) (hk.some_ x hx)
  obtain ⟨c, rfl, hc, -⟩ := plainElem_int_inv he hv
  have hc' := congrArg Prod.fst hc
  simp only at hc'
  rw [(h2 x hx).1] at hc'
  have e : (f x).getD 0 = c := by simpa using hc'
  rw [e, ← (h2 x hx).2]
  exact hrun
theorem plainElem_bool_inv (he : P.underlying E = some .bool) {v : Value} {z : DataW Unit × List MemPlace} (h : plainElem P E v = some z) : ∃ a, v = .bool a ∧ z = (.lit (.bool a), []) := by
  unfold plainElem at h
  rw [he] at h
  cases v <;> simp_all
theorem BoolMap.look {f : α → Bool} (h : BoolMap w P K E κ Ok b n f) (hk : KeyT P K κ Ok) (ht : P.underlying T = some (.map K E)) (he : P.underlying E = some .bool) (hz : (zeroValue E).run P w = .ok (.bool false) w) {x : α} (hx : Ok x) :
    (Instr.lookup T (.map (some b)) (κ x) false).run P w = .ok (.bool (f x)) w := by
  obtain ⟨D, h1, h2⟩ := h
  obtain ⟨v, ps, hrun, hv⟩ := h1.lookup hk.keyed ht hz (plainElem_bool he false) (hk.some_ x hx)
  obtain ⟨a, rfl, hc⟩ := plainElem_bool_inv he hv
  have hc' := congrArg Prod.fst hc
  simp only at hc'
  rw [h2 x hx] at hc'
  have e : f x = a := by simpa using hc'
  rw [e]
  exact hrun

-- Look-ups, at the operation.
section
variable {ops : Array Oper} {rest : List Oper} {o : Oper} {a : Act} {Q : Exit → Act → World → Prop}
theorem wpList_run_lookup (hg : o.guard = none) (m x : Operand) (c : Bool) (hop : o.op = Op.lookup T m x c) {mv key v : Value} (hm : a.eval m = mv) (hx : a.eval x = key) (hrun : (Instr.lookup T mv key c).run P w = .ok v w) (hK : wpList P ops Q rest (a.put o.dst v) w) : wpList P ops Q (o :: rest) a w := by
  refine wpList_plain hg fun K' hK' => ?_
  unfold Oper.wp
  simp [execOp, hop, hm, hx, hrun, Result.andThen]
  exact hK' _ _ hK
theorem wpList_ok_int {f : α → Option Int} (hg : o.guard = none) (m x : Operand) (hop : o.op = Op.lookup T m x true) (hk : KeyT P K κ Ok) (ht : P.underlying T = some (.map K E)) (he : P.underlying E = some (.int .i64)) (hz : (zeroValue E).run P w = .ok (.int .i64 0) w)
    (hm : a.eval m = .map (some b)) (h : IntMap w P K E κ Ok b n f) (y : α) (hy : Ok y) (hx : a.eval x = κ y) (hK : wpList P ops Q rest (a.put o.dst (.tuple #[.int .i64 ((f y).getD 0), .bool (f y).isSome])) w) : wpList P ops Q (o :: rest) a w :=
  wpList_run_lookup hg m x true hop hm hx (h.look_ok hk ht he hz hy) hK
theorem wpList_get_int {f : α → Option Int} (hg : o.guard = none) (m x : Operand) (hop : o.op = Op.lookup T m x false) (hk : KeyT P K κ Ok) (ht : P.underlying T = some (.map K E)) (he : P.underlying E = some (.int .i64)) (hz : (zeroValue E).run P w = .ok (.int .i64 0) w)
    (hm : a.eval m = .map (some b)) (h : IntMap w P K E κ Ok b n f) (y : α) (hy : Ok y) (hx : a.eval x = κ y) (hK : wpList P ops Q rest (a.put o.dst (.int .i64 ((f y).getD 0))) w) : wpList P ops Q (o :: rest) a w :=
  wpList_run_lookup hg m x false hop hm hx (h.look hk ht he hz hy) hK
theorem wpList_get_bool {f : α → Bool} (hg : o.guard = none) (m x : Operand) (hop : o.op = Op.lookup T m x false) (hk : KeyT P K κ Ok) (ht : P.underlying T = some (.map K E)) (he : P.underlying E = some .bool) (hz : (zeroValue E).run P w = .ok (.bool false) w)
    (hm : a.eval m = .map (some b)) (h : BoolMap w P K E κ Ok b n f) (y : α) (hy : Ok y) (hx : a.eval x = κ y) (hK : wpList P ops Q rest (a.put o.dst (.bool (f y))) w) : wpList P ops Q (o :: rest) a w :=
  wpList_run_lookup hg m x false hop hm hx (h.look hk ht he hz hy) hK
end

/-- A store, at the operation. -/
theorem wpList_put_int [DecidableEq α] {f : α → Option Int} {ops : Array Oper} {rest : List Oper} {o : Oper} {a : Act} {Q : Exit → Act → World → Prop}
    (hg : o.guard = none) (m x v : Operand) (hop : o.op = Op.mapUpdate T m x v) (hk : KeyT P K κ Ok) (ht : P.underlying T = some (.map K E)) (he : P.underlying E = some (.int .i64))
    (hm : a.eval m = .map (some b)) (h : IntMap w P K E κ Ok b n f) (hn : n < maxLen) (y : α) (z : Int) (hy : Ok y) (hz : (Lit.int .i64 z).wf = true) (hx : a.eval x = κ y) (hv : a.eval v = .int .i64 z)
    (hK : ∀ w', IntMap w' P K E κ Ok b (n + 1) (fun q => if q = y then some z else f q) → w.grownBy w' (some b) → wpList P ops Q rest (a.put o.dst undef) w') :
    wpList P ops Q (o :: rest) a w := by
  obtain ⟨D, h1, h2⟩ := h
  have hkl := hk.some_ y hy
  refine wpList_mapUpdate_own w hg m x v T hop K E hk.keyed ht _ b n D hm h1 hn _ _ _ hx hv hkl (.lit (.int .i64 z)) [] (plainElem_int he hz) fun w' hw' hgr => hK w' ⟨_, hw', fun q hq => ?_⟩ hgr
  by_cases hqy : q = y
  · subst hqy
    simp only [if_true]
    exact ⟨by rw [atKey_put_same h1.isMap (hk.keyed.key hkl)]; rfl, by rw [has_put_same h1.isMap (hk.keyed.key hkl)]; rfl⟩
  · simp only [if_neg hqy]
    have hne := hk.ne hq hy hqy
    rw [atKey_put_other hne, has_put_other hne]
    exact h2 q hq
theorem wpList_put_bool [DecidableEq α] {f : α → Bool} {ops : Array Oper} {rest : List Oper} {o : Oper} {a : Act} {Q : Exit → Act → World → Prop}
    (hg : o.guard = none) (m x v : Operand) (hop : o.op = Op.mapUpdate T m x v) (hk : KeyT P K κ Ok) (ht : P.underlying T = some (.map K E)) (he : P.underlying E = some .bool)
    (hm : a.eval m = .map (some b)) (h : BoolMap w P K E κ Ok b n f) (hn : n < maxLen) (y : α) (z : Bool) (hy : Ok y) (hx : a.eval x = κ y) (hv : a.eval v = .bool z)
    (hK : ∀ w', BoolMap w' P K E κ Ok b (n + 1) (fun q => if q = y then z else f q) → w.grownBy w' (some b) → wpList P ops Q rest (a.put o.dst undef) w') :
    wpList P ops Q (o :: rest) a w := by
  obtain ⟨D, h1, h2⟩ := h
  have hkl := hk.some_ y hy
  refine wpList_mapUpdate_own w hg m x v T hop K E hk.keyed ht _ b n D hm h1 hn _ _ _ hx hv hkl (.lit (.bool z)) [] (plainElem_bool he z) fun w' hw' hgr => hK w' ⟨_, hw', fun q hq => ?_⟩ hgr
  by_cases hqy : q = y
  · subst hqy
    simp only [if_true]
    rw [atKey_put_same h1.isMap (hk.keyed.key hkl)]
  · simp only [if_neg hqy]
    have hne := hk.ne hq hy hqy
    rw [atKey_put_other hne]
    exact h2 q hq
end

end Go.Proofs.Ytmcefodfppdajaa
