/- Chapter 9: what went and what is on hire: append, for the walk. -/
import Derived.Test.YtbeijeblbchglaaTwo9
namespace Go.Proofs.Ytbeijeblbchglaa
open Go.RowKit Go.Deep

theorem info_lot : (Try.prog.info? 54).map (fun i => (i.zero.map (·.cells.size), i.size, i.bytes)) = some (some 5, 5, 48) := by kernel_rfl
section
variable {w : World} {base : Nat} {W H : List Lt} {vw vh : Value} {ops : Array Oper} {rest : List Oper} {o : Oper} {a : Act} {Q : Exit → Act → World → Prop}
theorem Two.app_hired (h : Two w base W H vw vh) (hgd : o.guard = none) (s x : Operand) (ho : o.op = .call { callee := .builtin .append, args := #[s, x], argTypes := #[46, 46] })
    (hs : a.eval s = vh) (y : Lt) (B : Nat) (hx : a.eval x = .slice (some ⟨B, 0, none⟩) 1 1) (hB : Bk w B 54 y.cs.toArray) (hn : H.length ≤ 1000) (hbase : base ≤ w.heap.size)
    (hK : ∀ v' w', Two w' base W (H ++ [y]) vw v' → w.grownBy w' vh.ownBlock → (v'.ownBlock = vh.ownBlock ∨ ∀ k, v'.ownBlock = some k → w.heap.size ≤ k) → wpList Try.prog ops Q rest (a.put o.dst v') w') : wpList Try.prog ops Q (o :: rest) a w := by
  obtain ⟨i0, z, hi0, hz0, hzs, hz1, hz2⟩ := info_cells info_lot
  exact wpList_append_off w hgd s x _ ho base 54 i0 z 5 48 Try.underlying46 hi0 hz0 hz1 hz2 hzs (by omega) vh H.length (H.flatMap Lt.cs) hs h.off ⟨B, 0, none⟩ 1 1 y.cs hx rfl (World.news_of_block (fr := (0, 0)) hB) (Lt.one y) (by unfold maxLen; omega) (by omega) hbase fun v' w' h1 h2 h3 => hK v' w' (h.hired h1 h2 h3) h2 h3
theorem Two.app_went (h : Two w base W H vw vh) (hgd : o.guard = none) (s x : Operand) (ho : o.op = .call { callee := .builtin .append, args := #[s, x], argTypes := #[46, 46] })
    (hs : a.eval s = vw) (y : Lt) (B : Nat) (hx : a.eval x = .slice (some ⟨B, 0, none⟩) 1 1) (hB : Bk w B 54 y.cs.toArray) (hn : W.length ≤ 1000) (hbase : base ≤ w.heap.size)
    (hK : ∀ v' w', Two w' base (W ++ [y]) H v' vh → w.grownBy w' vw.ownBlock → (v'.ownBlock = vw.ownBlock ∨ v'.ownBlock = some w.heap.size) → wpList Try.prog ops Q rest (a.put o.dst v') w') : wpList Try.prog ops Q (o :: rest) a w := by
  obtain ⟨i0, z, hi0, hz0, hzs, hz1, hz2⟩ := info_cells info_lot
  exact wpList_append_own_at w hgd s x _ ho base 54 i0 z 5 48 Try.underlying46 hi0 hz0 hz1 hz2 hzs (by omega) vw W.length (W.flatMap Lt.cs) hs h.own ⟨B, 0, none⟩ 1 1 y.cs hx rfl (World.news_of_block (fr := (0, 0)) hB) (Lt.one y) (by unfold maxLen; omega) (by omega) hbase fun v' w' h1 h2 _ h4 => hK v' w' (h.went h1 h2 h4) h2 h4
/-- All that lies, behind all that went. -/
theorem Two.app_all (h : Two w base W H vw vh) (hgd : o.guard = none) (s x : Operand) (ho : o.op = .call { callee := .builtin .append, args := #[s, x], argTypes := #[46, 46] })
    (hs : a.eval s = vw) (hx : a.eval x = vh) (hn : W.length + H.length ≤ 1000) (hbase : base ≤ w.heap.size)
    (hK : ∀ v' w', w'.ownsRow base 54 5 v' (W ++ H).length ((W ++ H).flatMap Lt.cs) → w.grownBy w' vw.ownBlock → wpList Try.prog ops Q rest (a.put o.dst v') w') : wpList Try.prog ops Q (o :: rest) a w := by
  obtain ⟨i0, z, hi0, hz0, hzs, hz1, hz2⟩ := info_cells info_lot
  obtain ⟨A, c, rfl, hr⟩ := h.rws
  cases A with
  | none =>
    obtain ⟨e0, e1⟩ := hr.nil rfl
    have hl : H = [] := List.eq_nil_of_length_eq_zero e0
    subst hl
    subst e1
    exact wpList_append_own_none hgd s x _ ho base 54 i0 5 Try.underlying46 hi0 vw W.length _ hs h.own hx (hK vw w (by simpa using h.own) (World.grownBy.refl _ _))
  | some ad =>
    exact wpList_append_own_at w hgd s x _ ho base 54 i0 z 5 48 Try.underlying46 hi0 hz0 hz1 hz2 hzs (by omega) vw W.length (W.flatMap Lt.cs) hs h.own ad H.length c (H.flatMap Lt.cs) hx (flat_length Lt.wide H) hr.news (ones_of Lt.one H) (by unfold maxLen; omega) (by omega) hbase fun v' w' h1 h2 _ h4 => hK v' w' (by simpa using h1) h2
end

end Go.Proofs.Ytbeijeblbchglaa
