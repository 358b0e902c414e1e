/- Chapter 9: ranges over maps with truth values as elements, key by key, in whatever order. No program is named here. -/
import Derived.Test.YtgjjjnofdjhikaaMapB9
import Derived.Maps.RangeWalk
namespace Go.Proofs.Ytgjjjnofdjhikaa
open Go.RowKit Go.Maps

section
variable {α : Type} {P : Program} {K E T : TypeId} {κ : α → Value} {Ok : α → Prop} {w w' : World} {b r n cnt : Nat}
/-- A range over such a map under way: the keys that are still to come. -/
def BRng (w : World) (P : Program) (K E : TypeId) (κ : α → Value) (Ok : α → Prop) (b r n : Nat) (f : α → Option Bool) (lf : α → Bool) (cnt : Nat) : Prop :=
  ∃ (D : DataW Unit) (left : Lit → Bool), w.ranges P K (plainElem P E) b r n D left cnt ∧ (∀ x, Ok x → D.atKey (KL P K κ x) (.lit (.bool false)) = .lit (.bool ((f x).getD false)) ∧ Maps.has D (KL P K κ x) = (f x).isSome) ∧
    (∀ kl, Maps.has D kl = true → ∃ x, Ok x ∧ KL P K κ x = kl) ∧ (∀ kl, left kl = true → Maps.has D kl = true) ∧ ∀ x, Ok x → left (KL P K κ x) = lf x
variable {f : α → Option Bool} {lf : α → Bool}
theorem BRng.kept {row : Option Nat} (h : BRng w P K E κ Ok b r n f lf cnt) (hg : w.grownBy w' row) (h1 : some b ≠ row) (h2 : some r ≠ row) : BRng w' P K E κ Ok b r n f lf cnt := by
  obtain ⟨D, left, h0, h3⟩ := h
  exact ⟨D, left, h0.kept hg h1 h2, h3⟩
theorem BRng.left_eq (h : BRng w P K E κ Ok b r n f lf cnt) : w.rangeLeft b r = cnt := by
  obtain ⟨D, left, h0, -⟩ := h
  exact h0.left_eq
theorem BRng.lt (h : BRng w P K E κ Ok b r n f lf cnt) : r < w.heap.size ∧ b < w.heap.size := by
  obtain ⟨D, left, h0, -⟩ := h
  exact ⟨h0.lt, h0.owns.lt⟩
theorem wpList_range_b {ops : Array Oper} {rest : List Oper} {o : Oper} {a : Act} {Q : Exit → Act → World → Prop} (hg : o.guard = none) (m : Operand) (hop : o.op = Op.range T m) (hk : KeyT P K κ Ok) (ht : P.underlying T = some (.map K E))
    (hm : a.eval m = .map (some b)) (h : BMap w P K E κ Ok b n f) (hr : w.heap.size = r)
    (hK : ∀ w' cnt, BRng w' P K E κ Ok b r n f (fun x => (f x).isSome) cnt → cnt ≤ n → w.grownBy w' none → w'.heap.size = r + 1 → wpList P ops Q rest (a.put o.dst (.pointer (some ⟨r, 0, none⟩))) w') :
    wpList P ops Q (o :: rest) a w := by
  subst hr
  obtain ⟨D, h1, h2, h3⟩ := h
  exact wpList_range_own w hg m T hop K E hk.keyed ht _ b n D hm h1 fun w' hr hgr hs => hK w' _ ⟨D, _, hr, h2, h3, fun _ h => h, fun x hx => (h2 x hx).2⟩ (by obtain ⟨es, clock, hb, F, hs2, rfl⟩ := h1; rw [size_eq]; simpa [length_sorted] using hs2) hgr hs
theorem wpList_next_b [DecidableEq α] {ops : Array Oper} {rest : List Oper} {o : Oper} {a : Act} {Q : Exit → Act → World → Prop} (hg : o.guard = none) (it : Operand) (hop : o.op = Op.next it false) (hk : KeyT P K κ Ok) (he : P.underlying E = some .bool)
    (hit : a.eval it = .pointer (some ⟨r, 0, none⟩)) (h : BRng w P K E κ Ok b r n f lf cnt)
    (hDone : (∀ x, Ok x → lf x = false) → wpList P ops Q rest (a.put o.dst (.tuple #[.bool false])) w)
    (hMore : ∀ (x : α) (c : Bool) (w' : World) (cnt' : Nat), Ok x → lf x = true → f x = some c → BRng w' P K E κ Ok b r n f (fun z => lf z && !decide (z = x)) cnt' → cnt' < cnt → w.grownBy w' (some r) → w'.heap.size = w.heap.size →
      (Instr.entry (.pointer (some ⟨r, 0, none⟩))).run P w' = .ok (.tuple #[κ x, .bool c]) w' → wpList P ops Q rest (a.put o.dst (.tuple #[.bool true, κ x, .bool c])) w') :
    wpList P ops Q (o :: rest) a w := by
  obtain ⟨D, left, h0, h1, h2, h3, h4⟩ := h
  refine wpList_next_ranges (α := Value) (β := Bool) w hg it hop K hk.keyed (plainElem P E) id Value.bool (fun key kl _ => ⟨key, rfl⟩) (fun v y hv => by obtain ⟨c, rfl, -⟩ := plainElem_bool_inv he hv; exact ⟨c, rfl⟩) b r n D left cnt hit h0
    (fun _ hl => hDone fun x hx => by rw [← h4 x hx]; exact hl _) ?_
  intro key c kl y w' cnt' hkey hl hv hat hrg hlt hgr hs hen
  obtain ⟨x, hx, rfl⟩ := h2 kl (h3 kl hl)
  have hkx := hk.some_ x hx
  obtain rfl : key = κ x := hk.keyed.inj hkey hkx
  obtain ⟨c', e, hy⟩ := plainElem_bool_inv he hv
  injection e with e
  subst e
  have hfx : f x = some c := by
    have a1 := (h1 x hx).1
    have a2 := (h1 x hx).2
    rw [h3 _ hl] at a2
    rw [hat] at a1
    rw [congrArg Prod.fst hy] at a1
    obtain ⟨v, hv⟩ := Option.isSome_iff_exists.1 a2.symm
    rw [hv] at a1 ⊢
    simp at a1
    rw [a1]
  refine hMore x c w' cnt' hx (by rw [← h4 x hx]; exact hl) hfx ⟨D, _, hrg, h1, h2, ?_, ?_⟩ hlt hgr hs hen
  · intro kl h
    simp only [Bool.and_eq_true] at h
    exact h3 kl h.1
  · intro z hz
    rw [h4 z hz]
    congr 2
    by_cases e : z = x
    · subst e
      rw [decide_eq_true rfl]
      exact WideAt.sameKey_self (hk.keyed.key (hk.some_ z hz))
    · rw [decide_eq_false e]
      exact sameKey_ne (hk.ne hz hx e)
end

end Go.Proofs.Ytgjjjnofdjhikaa
