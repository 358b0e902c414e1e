/- Chapter 9: what went and what is on hire, in two rows of the call's own. -/
import Derived.Test.YtbeijeblbchglaaOff9
import Derived.Test.YtbeijeblbchglaaKinds9
import Derived.Test.YtbeijeblbchglaaLotRun9
namespace Go.Proofs.Ytbeijeblbchglaa
open Go.RowKit Go.Deep

structure Two (w : World) (base : Nat) (W H : List Lt) (vw vh : Value) : Prop where
  own : w.ownsRow base 54 5 vw W.length (W.flatMap Lt.cs)
  off : ownsOff w base 54 5 vh H.length (H.flatMap Lt.cs)
  far : ∀ q, vw.ownBlock = some q → vh.ownBlock ≠ some q
section
variable {w w' : World} {base : Nat} {W H : List Lt} {vw vh v' : Value}
theorem Two.nil_ (w : World) (base : Nat) : Two w base [] [] (.slice none 0 0) (.slice none 0 0) :=
  ⟨World.ownsRow_nil _ _ _ _, ownsOff_of (World.ownsRow_nil _ base _ _) (Nat.le_refl _), fun q h => by simp [Value.ownBlock] at h⟩
theorem Two.step (h : Two w base W H vw vh) (hb : Below w.heap.size w w') : Two w' base W H vw vh := ⟨own_step h.own hb, ownsOff_step h.off hb, h.far⟩
theorem Two.went (h : Two w base W H vw vh) {x : Lt} (ho : w'.ownsRow base 54 5 v' (W.length + 1) (W.flatMap Lt.cs ++ x.cs)) (hg : w.grownBy w' vw.ownBlock) (ha : v'.ownBlock = vw.ownBlock ∨ v'.ownBlock = some w.heap.size) : Two w' base (W ++ [x]) H v' vh := by
  refine ⟨by simpa using ho, ownsOff_kept h.off hg ?_, fun q hq => ?_⟩
  · cases hv : vw.ownBlock with
    | none =>
      cases hh : vh.ownBlock with
      | none => exact .inl rfl
      | some r => exact .inr (by simp)
    | some q => exact .inr (h.far q hv)
  · rcases ha with e | e
    · exact h.far q (e ▸ hq)
    · rw [e] at hq
      cases hq
      intro e2
      have := (ownsOff_lt h.off _ e2).2
      omega
theorem Two.hired (h : Two w base W H vw vh) {x : Lt} (ho : ownsOff w' base 54 5 v' (H.length + 1) (H.flatMap Lt.cs ++ x.cs)) (hg : w.grownBy w' vh.ownBlock) (ha : v'.ownBlock = vh.ownBlock ∨ ∀ k, v'.ownBlock = some k → w.heap.size ≤ k) : Two w' base W (H ++ [x]) vw v' := by
  refine ⟨h.own.kept hg ?_, by simpa using ho, fun q hq => ?_⟩
  · cases hv : vw.ownBlock with
    | none => exact .inl rfl
    | some q => exact .inr fun e => h.far q hv e.symm
  · rcases ha with e | e
    · rw [e]; exact h.far q hq
    · intro e2
      have := e q e2
      have := (h.own.lt q hq).2
      omega
/-- The first one that lies: its form, its cells. -/
theorem Two.first {x : Lt} {xs : List Lt} (h : Two w base W (x :: xs) vw vh) : ∃ g o cap, vh = .slice (some ⟨g, o, none⟩) (xs.length + 1) cap ∧ xs.length + 1 ≤ cap ∧ cap ≤ 9223372036854775807 ∧ base ≤ g ∧ g < w.heap.size ∧ (∀ q, vw.ownBlock = some q → q ≠ g) ∧
    (w.cell? ⟨g, o, none⟩ = some (.string x.p) ∧ w.cell? ⟨g, o + 1, none⟩ = some (.int .i64 x.n) ∧ w.cell? ⟨g, o + 2, none⟩ = some (.int .i64 x.i) ∧ w.cell? ⟨g, o + 3, none⟩ = some (.int .i64 x.d) ∧ w.cell? ⟨g, o + 4, none⟩ = some (.int .i64 x.o)) ∧ (w.frozen? ⟨g, o + 1, none⟩ = false) := by
  have ho := h.off
  obtain ⟨g, o, cap, cur, rfl, hb, hk, hnc, hm, hs, hx⟩ := ownsOff_form h.off (by simp)
  have hc := ownsOff_cells ho
  refine ⟨g, o, cap, rfl, hnc, by simpa [maxLen] using hm, hb, hk.lt, fun q hq e => h.far q hq (by simp [Value.ownBlock, e]), ⟨?_, ?_, ?_, ?_, ?_⟩, hk.frozen _⟩
  · exact hc 0 _ rfl
  · exact hc 1 _ rfl
  · exact hc 2 _ rfl
  · exact hc 3 _ rfl
  · exact hc 4 _ rfl
/-- Fewer pieces of the first one. -/
theorem Two.fewer {x : Lt} {xs : List Lt} {g o cap : Nat} (h : Two w base W (x :: xs) vw (.slice (some ⟨g, o, none⟩) (xs.length + 1) cap)) (n : Int) : Two (w.setCell ⟨g, o + 1, none⟩ (.int .i64 n)) base W (⟨x.p, n, x.i, x.d, x.o⟩ :: xs) vw (.slice (some ⟨g, o, none⟩) (xs.length + 1) cap) := by
  have hg : ∀ q, vw.ownBlock = some q → q ≠ g := fun q hq e => h.far q hq (by simp [Value.ownBlock, e])
  refine ⟨h.own.kept (row := some g) ⟨rfl, rfl, rfl, by simp, fun k _ hk => Below.heap_setCell w _ _ k (fun e => hk (by rw [e]))⟩ ?_, ?_, h.far⟩
  · cases hv : vw.ownBlock with
    | none => exact .inl rfl
    | some q => exact .inr fun e => hg q hv (by injection e)
  · exact ownsOff_set h.off (j := 1) (show 1 < (xs.length + 1) * 5 by omega) _
/-- The first one is gone. -/
theorem Two.gone {x : Lt} {xs : List Lt} {g o cap : Nat} (h : Two w base W (x :: xs) vw (.slice (some ⟨g, o, none⟩) (xs.length + 1) cap)) : Two w base W xs vw (.slice (some ⟨g, o + 5, none⟩) xs.length (cap - 1)) :=
  ⟨h.own, ownsOff_tail h.off, fun q hq e => h.far q hq (by simpa [Value.ownBlock] using e)⟩
theorem Two.gone_ {x : Lt} {xs : List Lt} {g o cap : Nat} (h : Two w base W (x :: xs) vw (.slice (some ⟨g, o, none⟩) (xs.length + 1) cap)) : Two w base W xs vw (.slice (if cap = 1 then some ⟨g, o, none⟩ else some ⟨g, o + 5, none⟩) xs.length (cap - 1)) := by
  by_cases hc : cap = 1
  · rw [if_pos hc]
    subst hc
    obtain ⟨g', o', cap', cur, e1, hb, hk, hnc, hm, hs, -⟩ := ownsOff_form h.off (by simp)
    injection e1 with e1 e2 e3
    injection e1 with e1
    injection e1 with e1 e4
    subst e1; subst e4; subst e3
    obtain rfl : xs = [] := List.eq_nil_of_length_eq_zero (by have : xs.length + 1 ≤ 1 := hnc; omega)
    exact ⟨h.own, ⟨rfl, .inr ⟨g, o, 0, cur, rfl, hb, hk, Nat.le_refl _, Nat.zero_le _, by omega, by simp⟩⟩, fun q hq e => h.far q hq (by simpa [Value.ownBlock] using e)⟩
  · rw [if_neg hc]
    exact h.gone
/-- Those that lie, read as rows. -/
theorem Two.rws (h : Two w base W H vw vh) : ∃ A c, vh = .slice A H.length c ∧ Rws Lt.cs 5 w w.heap.size A H.length c H := by
  have ho := h.off
  rcases h.off.2 with ⟨rfl, e0⟩ | ⟨g, o, cap, cur, rfl, hb, hk, hnc, hm, hs, hx⟩
  · obtain rfl : H = [] := List.eq_nil_of_length_eq_zero e0
    exact ⟨none, 0, rfl, Rws.nil_ _ _⟩
  · exact ⟨some ⟨g, o, none⟩, cap, rfl, ⟨ho.1, hnc, by simpa [maxLen] using hm, fun _ => ⟨g, o, rfl, hk.lt, ownsOff_cells ho⟩⟩, rfl, fun h => by cases h⟩
end

end Go.Proofs.Ytbeijeblbchglaa
