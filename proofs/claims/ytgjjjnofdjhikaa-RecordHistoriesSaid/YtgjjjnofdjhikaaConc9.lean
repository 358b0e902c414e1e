/- Chapter 9, walks: slices.Concat of a record and an event; Add. -/
import Derived.Test.YtgjjjnofdjhikaaAcc9
import Derived.Test.YtgjjjnofdjhikaaShelf
namespace Go.Proofs.Ytgjjjnofdjhikaa
open Go.RowKit Go.WideShapes Go.Deep

theorem growNil_any (n : Nat) (w : World) (h0 : 0 < n) (hn : n ≤ 1000000) :
    Calls Try.prog 66 #[.slice none 0 0, .int .i64 n] w fun e w' => Below w.heap.size w w' ∧ ∃ v, e = .returned v ∧ w'.ownsRow w.heap.size 24 6 v 0 [] := by
  obtain ⟨i0, z, hi0, hz0, hzs, hz1, hz2⟩ := info_cells info_ev
  refine (Try.slices_Grow_nil i0 z hi0 hz0 (by omega) n w h0 (by rw [hz2]; omega) (by omega)).mono ?_
  rintro e w' ⟨rfl, rfl⟩
  have hge := grownCap_ge w (0 + n) 0 24
  have hle := grownCap_le_maxLen w (0 + n) 0 24 (by unfold maxLen; omega)
  refine ⟨Below.alloc (Below.drew (Below.refl _ _)) (Nat.le_refl _) _, _, rfl, by simp, .inr ⟨_, _, _, rfl, Nat.le_refl _, Bk.alloc_ _ _ _, Nat.zero_le _, hle, ?_, by simp⟩⟩
  rw [Nat.zero_add] at hge
  simp [size_zeroCells, hzs]
  try omega
/-- A record, behind a row of the call's own. -/
theorem app_ev {w : World} {base : Nat} {W H : List Ev} {vw : Value} {ops : Array Oper} {rest : List Oper} {o : Oper} {a : Act} {Q : Exit → Act → World → Prop} (h : w.ownsRow base 24 6 vw W.length (W.flatMap Ev.cs)) (hgd : o.guard = none) (s x : Operand) (ho : o.op = .call { callee := .builtin .append, args := #[s, x], argTypes := #[22, 22] })
    (hs : a.eval s = vw) {A : Option Addr} {n c B : Nat} (hx : a.eval x = .slice A n c) (hr : Rws Ev.cs 6 w B A n c H) (hn : W.length + n ≤ 100000) (hbase : base ≤ w.heap.size)
    (hK : ∀ v' w', w'.ownsRow base 24 6 v' (W ++ H).length ((W ++ H).flatMap Ev.cs) → w.grownBy w' vw.ownBlock → wpList Try.prog ops Q rest (a.put o.dst v') w') : wpList Try.prog ops Q (o :: rest) a w := by
  obtain ⟨i0, z, hi0, hz0, hzs, hz1, hz2⟩ := info_cells info_ev
  have hl := hr.len
  cases A with
  | none =>
    obtain ⟨rfl, rfl⟩ := hr.nil rfl
    have hl : H = [] := List.eq_nil_of_length_eq_zero hl
    subst hl
    exact wpList_append_own_none hgd s x _ ho base 24 i0 6 Try.underlying22 hi0 vw W.length _ hs h hx (hK vw w (by simpa using h) (World.grownBy.refl _ _))
  | some ad =>
    exact wpList_append_own_at w hgd s x _ ho base 24 i0 z 6 48 Try.underlying22 hi0 hz0 hz1 hz2 hzs (by omega) vw W.length (W.flatMap Ev.cs) hs h ad n c (H.flatMap Ev.cs) hx (by rw [flat_length Ev.wide H, hl]) hr.news (ones_of Ev.one H) (by unfold maxLen; omega) (by omega) hbase fun v' w' h1 h2 _ _ => hK v' w' (by subst hl; simpa using h1) h2
theorem Bk.rowE {w : World} {g B : Nat} {x : Ev} (h : Bk w g 24 x.cs.toArray) (hg : g < B) : Rws Ev.cs 6 w B (some ⟨g, 0, none⟩) 1 1 [x] := by
  have := h.sl (size := 6) (n := 1) (c := 1) hg (Nat.le_refl _) (by omega) (Nat.le_refl _)
  have e : List.take 6 x.cs = x.cs := rfl
  exact ⟨by simpa [e] using this, rfl, fun e => by cases e⟩
theorem Bk.pair_ {w : World} {g t : Nat} {a b : Value} (h : Bk w g t #[a, b]) : w.cell? ⟨g, 0, none⟩ = some a ∧ w.cell? ⟨g, 1, none⟩ = some b :=
  ⟨by simpa using h.cell 0, by simpa using h.cell 1⟩
set_option maxRecDepth 100000 in
set_option maxHeartbeats 4000000 in
theorem concat_any (A : Option Addr) (n c g gx m : Nat) (l : List Ev) (x : Ev) (t : TypeId) (w : World) (h : Rws Ev.cs 6 w w.heap.size A n c l) (hn : n ≤ 1000) (hg : Bk w g t #[.slice A n c, .slice (some ⟨gx, 0, none⟩) 1 1]) (hx : Bk w gx 24 x.cs.toArray) :
    Calls Try.prog 44 #[.slice (some ⟨g, 0, none⟩) 2 m] w fun e w' => Below w.heap.size w w' ∧ ∃ v, e = .returned v ∧ w'.ownsRow w.heap.size 24 6 v (n + 1) ((l ++ [x]).flatMap Ev.cs) := by
  have hcap := h.cap
  have hmax := h.max
  have HLEN := Lib.hid h.len
  have HG : Hid (∀ w', Below w.heap.size w w' → Bk w' g t #[.slice A n c, .slice (some ⟨gx, 0, none⟩) 1 1]) := fun w' hb => hg.below hb hg.lt
  have HA : Hid (∀ w', Below w.heap.size w w' → Rws Ev.cs 6 w' w'.heap.size A n c l) := fun w' hb => h.below hb (Nat.le_refl _) hb.size
  have HX : Hid (∀ w', Below w.heap.size w w' → Rws Ev.cs 6 w' w'.heap.size (some ⟨gx, 0, none⟩) 1 1 [x]) := fun w' hb => Bk.rowE (hx.below hb hx.lt) (by have := hx.lt; have := hb.size; omega)
  have HB0 : Hid (Below w.heap.size w w) := Lib.hid (Below.refl _ _)
  have og := hg.lt
  obtain ⟨g0, g1⟩ := hg.pair_
  obtain ⟨N, hN⟩ : ∃ N : Nat, N = n + 1 := ⟨_, rfl⟩
  have hw1 : IntKind.i64.wrap (0 + (n : Int)) = (n : Int) := by rw [IntWalk.i64_in _ (by omega)]; omega
  have hw2 : IntKind.i64.wrap ((n : Int) + 1) = (N : Int) := by rw [IntWalk.i64_in _ (by omega)]; omega
  have HN := Lib.hid hN
  have hN1 : 1 ≤ N := by omega
  have hN2 : N ≤ 2000 := by omega
  have hn0 : ¬ (n : Int) < 0 := by omega
  clear hN hg h hx
  go_enter Try.func44, Try.ntmps44
  go_wp2
  refine wp_loop_rounds 3 ?_
  rw [rounds_succ]
  go_wp2
  rw [rounds_succ]
  go_wp2
  rw [rounds_succ]
  go_wp2_with (go_at_call 66; refine (growNil_any N _ (by omega) (by omega)).mono ?_; rintro e wd ⟨hbd, v0, rfl, hown0⟩; have HO0 := Lib.hid hown0; have HB1 := Lib.hid hbd; obtain ⟨e0, e1⟩ := (HG.out _ HB1.out).pair_; have og1 := HB1.out.size; clear hown0 hbd)
  refine wp_loop_rounds 3 ?_
  rw [rounds_succ]
  go_wp2_with (at_builtin; go_loud (refine app_ev (W := []) (base := w.heap.size) (vw := v0) HO0.out rfl _ _ rfl rfl rfl (HA.out _ HB1.out) (by simp; omega) HB1.out.size ?_; intro v1 w1 ho1 hg1; have HO1 := Lib.hid ho1; have HB2 : Hid (Below w.heap.size w w1) := Lib.hid (Below.grown_ HB1.out hg1 HB1.out.size (fun q hq => (HO0.out.lt q hq).1)); clear ho1 hg1))
  clear e0 e1
  obtain ⟨e0, e1⟩ := (HG.out _ HB2.out).pair_
  have og2 := HB2.out.size
  go_wp2
  rw [rounds_succ]
  go_wp2_with (at_builtin; go_loud (refine app_ev (W := [] ++ l) (base := w.heap.size) (vw := v1) HO1.out rfl _ _ rfl rfl rfl (HX.out _ HB2.out) (by simp; rw [HLEN.out]; omega) HB2.out.size ?_; intro v2 w2 ho2 hg2; have HO2 := Lib.hid ho2; have HB3 : Hid (Below w.heap.size w w2) := Lib.hid (Below.grown_ HB2.out hg2 HB2.out.size (fun q hq => (HO1.out.lt q hq).1)); clear ho2 hg2))
  clear e0 e1
  obtain ⟨e0, e1⟩ := (HG.out _ HB3.out).pair_
  have og3 := HB3.out.size
  go_wp2
  rw [rounds_succ]
  go_wp2
  go_ret
  refine ⟨HB3.out, _, rfl, ?_⟩
  have := HO2.out
  rw [List.nil_append, List.length_append, HLEN.out] at this
  exact this

end Go.Proofs.Ytgjjjnofdjhikaa
