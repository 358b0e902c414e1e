/- Maps that the call makes, with truth values as elements and with absent keys: as functions of the key; the defects of platforms as keys. -/
import Derived.Test.YtgjjjnofdjhikaaTerms9
import Derived.Test.YtgjjjnofdjhikaaLift
import Derived.Lib.SmallJoins
namespace Go.Proofs.Ytgjjjnofdjhikaa
open Go.RowKit Go.Maps Go.Joins Go.ChangeShapes Go.WideShapes Go.Deep

section
variable {α : Type} {P : Program} {K E T : TypeId} {κ : α → Value} {Ok : α → Prop} {w w' : World} {b n : Nat}
/-- A map with truth values as elements, some keys absent. -/
def BMap (w : World) (P : Program) (K E : TypeId) (κ : α → Value) (Ok : α → Prop) (b n : Nat) (f : α → Option Bool) : Prop :=
  ∃ D : DataW Unit, w.ownsMap P K (plainElem P E) b n D ∧ (∀ x, Ok x → D.atKey (KL P K κ x) (.lit (.bool false)) = .lit (.bool ((f x).getD false)) ∧ Maps.has D (KL P K κ x) = (f x).isSome) ∧ ∀ kl, Maps.has D kl = true → ∃ x, Ok x ∧ KL P K κ x = kl
theorem BMap.made (w : World) : BMap (w.alloc (.map #[] 0)) P K E κ Ok w.heap.size 0 (fun _ => none) :=
  ⟨.map [], World.ownsMap_made w P K _, fun _ _ => ⟨rfl, rfl⟩, fun kl h => by simp [has_eq] at h⟩
theorem BMap.lt {f : α → Option Bool} (h : BMap w P K E κ Ok b n f) : b < w.heap.size := by obtain ⟨D, h1, -⟩ := h; exact h1.lt
theorem BMap.kept {f : α → Option Bool} {row : Option Nat} (h : BMap w P K E κ Ok b n f) (hg : w.grownBy w' row) (hne : some b ≠ row) : BMap w' P K E κ Ok b n f := by
  obtain ⟨D, h1, h2⟩ := h
  exact ⟨D, h1.kept hg hne, h2⟩
theorem BMap.below {f : α → Option Bool} (h : BMap w P K E κ Ok b n f) (hb : Below w.heap.size w w') : BMap w' P K E κ Ok b n f := h.kept (grown_of_below hb) (by simp)
theorem BMap.alloc {f : α → Option Bool} (h : BMap w P K E κ Ok b n f) (o : Obj) : BMap (w.alloc o) P K E κ Ok b n f := h.kept (World.grownBy_alloc w o none) (by simp)
theorem BMap.drew {f : α → Option Bool} (h : BMap w P K E κ Ok b n f) : BMap w.drew P K E κ Ok b n f := h.below ((Below.refl _ _).drew)
theorem BMap.look_ok {f : α → Option Bool} (h : BMap w P K E κ Ok b n f) (hk : KeyT P K κ Ok) (ht : P.underlying T = some (.map K E)) (he : P.underlying E = some .bool) (hz : (zeroValue E).run P w = .ok (.bool false) w) {x : α} (hx : Ok x) :
    (Instr.lookup T (.map (some b)) (κ x) true).run P w = .ok (.tuple #[.bool ((f x).getD false), .bool (f x).isSome]) w := by
  obtain ⟨D, h1, h2, -⟩ := h
  obtain ⟨v, ps, hrun, hv⟩ := h1.look_ok hk.keyed ht hz (plainElem_bool he false) (hk.some_ x hx)
  obtain ⟨a, rfl, hc⟩ := plainElem_bool_inv he hv
  have hc' := congrArg Prod.fst hc
  simp only at hc'
  rw [(h2 x hx).1] at hc'
  have e : (f x).getD false = a := by simpa using hc'
  rw [e, ← (h2 x hx).2]
  exact hrun
theorem wpList_put_b [DecidableEq α] {f : α → Option Bool} {ops : Array Oper} {rest : List Oper} {o : Oper} {a : Act} {Q : Exit → Act → World → Prop}
    (hg : o.guard = none) (m x v : Operand) (hop : o.op = Op.mapUpdate T m x v) (hk : KeyT P K κ Ok) (ht : P.underlying T = some (.map K E)) (he : P.underlying E = some .bool)
    (hm : a.eval m = .map (some b)) (h : BMap w P K E κ Ok b n f) (hn : n < maxLen) (y : α) (z : Bool) (hy : Ok y) (hx : a.eval x = κ y) (hv : a.eval v = .bool z)
    (hK : ∀ w', BMap w' P K E κ Ok b (n + 1) (fun q => if q = y then some z else f q) → w.grownBy w' (some b) → wpList P ops Q rest (a.put o.dst undef) w') :
    wpList P ops Q (o :: rest) a w := by
  obtain ⟨D, h1, h2, h3⟩ := h
  have hkl := hk.some_ y hy
  refine wpList_mapUpdate_own w hg m x v T hop K E hk.keyed ht _ b n D hm h1 hn _ _ _ hx hv hkl (.lit (.bool z)) [] (plainElem_bool he z) fun w' hw' hgr => hK w' ⟨_, hw', fun q hq => ?_, fun kl hl => ?_⟩ hgr
  rotate_left
  · by_cases e : kl = KL P K κ y
    · exact ⟨y, hy, e.symm⟩
    · rw [has_put_other e] at hl
      exact h3 kl hl
  by_cases hqy : q = y
  · subst hqy
    simp only [if_true]
    exact ⟨by rw [atKey_put_same h1.isMap (hk.keyed.key hkl)]; rfl, by rw [has_put_same h1.isMap (hk.keyed.key hkl)]; rfl⟩
  · simp only [if_neg hqy]
    have hne := hk.ne hq hy hqy
    rw [atKey_put_other hne, has_put_other hne]
    exact h2 q hq
theorem wpList_del_b [DecidableEq α] {f : α → Option Bool} {ops : Array Oper} {rest : List Oper} {o : Oper} {a : Act} {Q : Exit → Act → World → Prop}
    (hg : o.guard = none) (m x : Operand) (hop : o.op = Op.call { callee := Callee.builtin Builtin.delete, args := #[m, x], argTypes := #[T, K] }) (hk : KeyT P K κ Ok) (ht : P.underlying T = some (.map K E))
    (hm : a.eval m = .map (some b)) (h : BMap w P K E κ Ok b n f) (y : α) (hy : Ok y) (hx : a.eval x = κ y)
    (hK : ∀ w', BMap w' P K E κ Ok b n (fun q => if q = y then none else f q) → w.mapTurned w' b → wpList P ops Q rest (a.put o.dst (.tuple #[])) w') :
    wpList P ops Q (o :: rest) a w := by
  obtain ⟨D, h1, h2, h3⟩ := h
  have hkl := hk.some_ y hy
  refine wpList_delete_own w hg m x T K hop E hk.keyed ht _ b n D hm h1 _ _ hx hkl fun w' hw' hgr => hK w' ⟨_, hw', fun q hq => ?_, fun kl hl => ?_⟩ hgr
  rotate_left
  · by_cases e : kl = KL P K κ y
    · rw [e, has_del_same] at hl
      cases hl
    · rw [has_del_other e] at hl
      exact h3 kl hl
  by_cases hqy : q = y
  · subst hqy
    simp only [if_true]
    exact ⟨by rw [atKey_del_same]; rfl, by rw [has_del_same]; rfl⟩
  · simp only [if_neg hqy]
    have hne := hk.ne hq hy hqy
    rw [atKey_del_other hne, has_del_other hne]
    exact h2 q hq
end

/-- Defects as keys. -/
abbrev Df := ByteArray × Int
def dfV (t : Df) : Value := .agg #[.string t.1, .int .i64 t.2]
def dfOk (t : Df) : Prop := t.1.size ≤ 1000 ∧ -9223372036854775808 ≤ t.2 ∧ t.2 ≤ 9223372036854775807
theorem dfV_inj {x y : Df} (h : dfV x = dfV y) : x = y := by
  obtain ⟨a, b⟩ := x
  obtain ⟨c, d⟩ := y
  simpa [dfV] using h
theorem df_row : (92 : TypeId) < Try.prog.types.size := of_decide_eq_true (by kernel_rfl)
theorem df_wide : (match Try.prog.underlying 92 with | some (.array _ _) | some (.struct _) => true | _ => false) = true := by rw [Try.underlying92]
theorem df_deep : Try.prog.keyTypeAt (Try.prog.types.size + 1) 92 = true := by kernel_rfl
theorem df_cells : Try.prog.cellsOf 92 = 2 := by kernel_rfl
theorem df_fields : ∃ f0 f1, Try.prog.underlying 92 = some (.struct #[f0, f1]) ∧ oneCellFields Try.prog #[f0, f1] = true ∧ f0.type = 9 ∧ f1.type = 3 := by
  exact ⟨(Try.prog.fieldsOf 92)[0]!, (Try.prog.fieldsOf 92)[1]!, by kernel_rfl, by kernel_rfl, by kernel_rfl, by kernel_rfl⟩
set_option maxRecDepth 100000 in
theorem df_keyOf (t : Df) (h : dfOk t) (w : World) : ∃ l, keyOf Try.prog 92 (dfV t) = some l := by
  obtain ⟨f0, f1, hu, ho, t0, t1⟩ := df_fields
  have hf : (dfV t).formed Try.prog 92 = true := by simp [Value.formed, dfV, df_cells, Try.underlying92]
  obtain ⟨m, hm⟩ := shut_string_cell (H := Unit) (enc := fun _ => ()) (P := Try.prog) (w := w) (base := 0) (spare := fun _ => true) (held := true) Try.underlying9 (s := t.1) (by have := h.1; unfold maxLen; omega)
  have hT := shut_agg2 (H := Unit) (enc := fun _ => ()) (P := Try.prog) (w := w) (base := 0) (spare := fun _ => true) (held := true) (v0 := .string t.1) (v1 := .int .i64 t.2)
    (y0 := (.lit (.string t.1.data.toList), [])) (y1 := (.lit (.int .i64 t.2), [])) hu ho df_cells
    ⟨m, by rw [t0]; exact hm⟩ ⟨1, by rw [t1]; exact trod_int_mk 0 Try.underlying3 (WalkArith.wf_i64 (by have := h.2; omega))⟩
  exact ⟨_, (keyOf_asKey df_deep df_wide hf hT).1⟩
set_option maxRecDepth 100000 in
theorem df_keys (w : World) : KeyT Try.prog 92 dfV dfOk :=
  ⟨Keyed.of_law (deep_law_laid Try.laidOut (m := 2) (by omega) df_row (by kernel_rfl) df_wide), fun x hx => by
    obtain ⟨l, hl⟩ := df_keyOf x hx w
    unfold KL
    rw [hl]
    rfl, fun x y h => dfV_inj h⟩

end Go.Proofs.Ytgjjjnofdjhikaa
