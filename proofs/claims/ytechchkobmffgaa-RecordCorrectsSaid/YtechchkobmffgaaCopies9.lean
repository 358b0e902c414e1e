/- Chapter 9, walks: copies of records, stores into them, equal records. -/
import Derived.Test.YtechchkobmffgaaCheckRec9
import Derived.Laws.Cover3
namespace Go.Proofs.Ytechchkobmffgaa
open Go.RowKit Go.WideShapes

theorem info_ev : (Try.prog.info? 24).map (fun i => (i.zero.map (·.cells.size), i.size, i.bytes)) = some (some 6, 6, 48) := by kernel_rfl
set_option maxRecDepth 100000 in
set_option maxHeartbeats 2000000 in
theorem copied_any (A : Option Addr) (n c : Nat) (l : List Ev) (w : World) (h : Rws Ev.cs 6 w w.heap.size A n c l) (hn : n ≤ 500) :
    Calls Try.prog 14 #[.slice A n c] w fun e w' => Below w.heap.size w w' ∧ ∃ v, e = .returned v ∧ w'.ownsRow w.heap.size 24 6 v n (l.flatMap Ev.cs) := by
  have H : Hid (∀ w', Below w.heap.size w w' → Rws Ev.cs 6 w' w.heap.size A n c l) := fun w' hb => h.below hb (Nat.le_refl _) (Nat.le_refl _)
  obtain ⟨i0, z, hi0, hz0, hzs, hz1, hz2⟩ := info_cells info_ev
  have HI0 := Lib.hid hi0
  have HZ0 := Lib.hid hz0
  have HZ1 := Lib.hid hz1
  have HZ2 := Lib.hid hz2
  have HZS := Lib.hid hzs
  clear h hi0 hz0 hz1 hz2 hzs
  go_enter Try.func14, Try.ntmps14
  go_wp2_with (at_builtin; refine wpList_copy rfl _ _ _ rfl w.heap.size 24 i0 _ 6 48 Try.underlying22 HI0.out HZ0.out HZ1.out HZ2.out HZS.out (by omega) _ rfl (World.ownsRow_made _ #[] 0 (Nat.le_refl _) (by unfold maxLen; omega) rfl) Ev.wide rfl (H.out _ (by exact (by repeat (first | with_reducible exact Below.refl _ _ | with_reducible assumption | with_reducible refine Below.drew ?_ | with_reducible refine Below.drewN ?_ _ | with_reducible refine Below.alloc2 ?_ _ | with_reducible refine Below.alloc ?_ (by first | omega | (simp <;> omega)) _ | with_reducible refine Below.setCell ?_ (by first | omega | (simp <;> omega)) _ | with_reducible refine Below.step2 (by with_reducible assumption) ?_ | with_reducible refine Below.step (by with_reducible assumption) ?_ (by first | omega | (simp <;> omega)))))) (ones_of Ev.one l) (by unfold maxLen; omega) (by omega) (by simp) ?_; intro v1 w2 hown1 hg1; have HO1 := Lib.hid hown1; have HG1 := Lib.hid hg1; clear hown1 hg1)
  go_ret
  exact ⟨Below.grown_ (D := w.heap.size) (by exact (by repeat (first | with_reducible exact Below.refl _ _ | with_reducible assumption | with_reducible refine Below.drew ?_ | with_reducible refine Below.drewN ?_ _ | with_reducible refine Below.alloc2 ?_ _ | with_reducible refine Below.alloc ?_ (by first | omega | (simp <;> omega)) _ | with_reducible refine Below.setCell ?_ (by first | omega | (simp <;> omega)) _ | with_reducible refine Below.step2 (by with_reducible assumption) ?_ | with_reducible refine Below.step (by with_reducible assumption) ?_ (by first | omega | (simp <;> omega))))) HG1.out (by simp) (fun q hq => by cases hq; exact Nat.le_refl _), _, rfl, HO1.out⟩
theorem eql_nil (A : Option Addr) (n c : Nat) (W : World) : (binOp .eql 22 (.slice A n c) (.slice none 0 0)).run Try.prog W = .ok (.bool A.isNone) W := by
  simp [binOp, run_equal_slice_nil (P := Try.prog) W _ _ A n c Try.underlying22]
set_option maxRecDepth 100000 in
set_option maxHeartbeats 2000000 in
theorem clone_any (A : Option Addr) (n c : Nat) (l : List Ev) (w : World) (h : Rws Ev.cs 6 w w.heap.size A n c l) (hn : n ≤ 500) :
    Calls Try.prog 50 #[.slice A n c] w fun e w' => Below w.heap.size w w' ∧ ∃ v, e = .returned v ∧ w'.ownsRow w.heap.size 24 6 v n (l.flatMap Ev.cs) := by
  have H : Hid (∀ w', Below w.heap.size w w' → Rws Ev.cs 6 w' w.heap.size A n c l) := fun w' hb => h.below hb (Nat.le_refl _) (Nat.le_refl _)
  obtain ⟨i0, z, hi0, hz0, hzs, hz1, hz2⟩ := info_cells info_ev
  have HI0 := Lib.hid hi0
  have HZ0 := Lib.hid hz0
  have HZ1 := Lib.hid hz1
  have HZ2 := Lib.hid hz2
  have HZS := Lib.hid hzs
  clear hi0 hz0 hz1 hz2 hzs
  cases A with
  | none =>
    obtain ⟨rfl, rfl⟩ := h.nil rfl
    have hl : l = [] := List.eq_nil_of_length_eq_zero h.len
    subst hl
    clear h
    have hq : ∀ W : World, (binOp .eql 22 (.slice none 0 0) (.slice none 0 0)).run Try.prog W = .ok (.bool true) W := fun W => eql_nil none 0 0 W
    go_enter Try.func50, Try.ntmps50
    go_wp2
    go_ret
    exact ⟨(by repeat (first | with_reducible exact Below.refl _ _ | with_reducible assumption | with_reducible refine Below.drew ?_ | with_reducible refine Below.drewN ?_ _ | with_reducible refine Below.alloc2 ?_ _ | with_reducible refine Below.alloc ?_ (by first | omega | (simp <;> omega)) _ | with_reducible refine Below.setCell ?_ (by first | omega | (simp <;> omega)) _ | with_reducible refine Below.step2 (by with_reducible assumption) ?_ | with_reducible refine Below.step (by with_reducible assumption) ?_ (by first | omega | (simp <;> omega)))), _, rfl, World.ownsRow_nil _ _ _ _⟩
  | some ad =>
    clear h
    have hq : ∀ W : World, (binOp .eql 22 (.slice (some ad) n c) (.slice none 0 0)).run Try.prog W = .ok (.bool false) W := fun W => eql_nil (some ad) n c W
    go_enter Try.func50, Try.ntmps50
    go_wp2_with (at_builtin; refine wpList_copy rfl _ _ _ rfl w.heap.size 24 i0 _ 6 48 Try.underlying22 HI0.out HZ0.out HZ1.out HZ2.out HZS.out (by omega) _ rfl (World.ownsRow_made _ #[] 0 (Nat.le_refl _) (by unfold maxLen; omega) rfl) Ev.wide rfl (H.out _ (by exact (by repeat (first | with_reducible exact Below.refl _ _ | with_reducible assumption | with_reducible refine Below.drew ?_ | with_reducible refine Below.drewN ?_ _ | with_reducible refine Below.alloc2 ?_ _ | with_reducible refine Below.alloc ?_ (by first | omega | (simp <;> omega)) _ | with_reducible refine Below.setCell ?_ (by first | omega | (simp <;> omega)) _ | with_reducible refine Below.step2 (by with_reducible assumption) ?_ | with_reducible refine Below.step (by with_reducible assumption) ?_ (by first | omega | (simp <;> omega)))))) (ones_of Ev.one l) (by unfold maxLen; omega) (by omega) (by simp) ?_; intro v1 w2 hown1 hg1; have HO1 := Lib.hid hown1; have HG1 := Lib.hid hg1; clear hown1 hg1)
    go_ret
    exact ⟨Below.grown_ (D := w.heap.size) (by exact (by repeat (first | with_reducible exact Below.refl _ _ | with_reducible assumption | with_reducible refine Below.drew ?_ | with_reducible refine Below.drewN ?_ _ | with_reducible refine Below.alloc2 ?_ _ | with_reducible refine Below.alloc ?_ (by first | omega | (simp <;> omega)) _ | with_reducible refine Below.setCell ?_ (by first | omega | (simp <;> omega)) _ | with_reducible refine Below.step2 (by with_reducible assumption) ?_ | with_reducible refine Below.step (by with_reducible assumption) ?_ (by first | omega | (simp <;> omega))))) HG1.out (by simp) (fun q hq => by cases hq; exact Nat.le_refl _), _, rfl, HO1.out⟩
/-- An event is stored into a row of the call's own. -/
theorem own_put6 {w : World} {base g n cap k : Nat} {l : List Ev} (h : w.ownsRow base 24 6 (.slice (some ⟨g, 0, none⟩) n cap) n (l.flatMap Ev.cs)) (hl : l.length = n) (hk : k < n) (x : Ev) :
    ((((((w.setCell ⟨g, k * 6, none⟩ (.int .i64 x.d)).setCell ⟨g, k * 6 + 1, none⟩ (.int .i64 x.k)).setCell ⟨g, k * 6 + 2, none⟩ (.string x.p)).setCell ⟨g, k * 6 + 3, none⟩ (.int .i64 x.n)).setCell ⟨g, k * 6 + 4, none⟩ (.bool x.ps)).setCell ⟨g, k * 6 + 5, none⟩ (.bool x.gr)).ownsRow base 24 6 (.slice (some ⟨g, 0, none⟩) n cap) n ((l.set k x).flatMap Ev.cs) := by
  obtain ⟨h1, h2⟩ := h
  rcases h2 with ⟨e, -⟩ | ⟨g', cap', cur, e, hg, hh, hnc, hm, hs, hx⟩
  · cases e
  · injection e with e1 e2 e3
    have e1 : g = g' := by simpa using e1
    subst e1
    subst e3
    have hb : Bk w g 24 cur := hh
    have hb6 := (((((hb.set_ (k * 6) (.int .i64 x.d)).set_ (k * 6 + 1) (.int .i64 x.k)).set_ (k * 6 + 2) (.string x.p)).set_ (k * 6 + 3) (.int .i64 x.n)).set_ (k * 6 + 4) (.bool x.ps)).set_ (k * 6 + 5) (.bool x.gr)
    refine ⟨by rw [flat_length Ev.wide, List.length_set, hl], .inr ⟨g, cap, _, rfl, hg, hb6, hnc, hm, by simpa using hs, ?_⟩⟩
    refine List.ext_getElem? fun q => ?_
    rw [List.getElem?_take]
    by_cases hq : q < n * 6
    · rw [if_pos hq]
      have hcap : n * 6 ≤ cap * 6 := Nat.mul_le_mul_right _ hnc
      have hqd : q / 6 < n := Nat.div_lt_of_lt_mul (by omega)
      have hqm : q % 6 < 6 := Nat.mod_lt _ (by omega)
      have hsp : q / 6 * 6 + q % 6 = q := by omega
      have hold : cur[q]? = (l.flatMap Ev.cs)[q]? := by
        rw [← hx, List.getElem?_take, if_pos hq, Array.getElem?_toList]
      rw [Array.getElem?_toList]
      by_cases hqk : q / 6 = k
      · have hset : (l.set k x)[k]? = some x := List.getElem?_set_self (by omega)
        have hr := flat_get Ev.wide hset hqm
        rw [← hqk, hsp, hqk] at hr
        rw [hr]
        obtain h0 | h0 | h0 | h0 | h0 | h0 : q = k * 6 ∨ q = k * 6 + 1 ∨ q = k * 6 + 2 ∨ q = k * 6 + 3 ∨ q = k * 6 + 4 ∨ q = k * 6 + 5 := by omega
        all_goals
          subst h0
          first
            | (rw [show k * 6 % 6 = 0 by omega])
            | (rw [show (k * 6 + 1) % 6 = 1 by omega])
            | (rw [show (k * 6 + 2) % 6 = 2 by omega])
            | (rw [show (k * 6 + 3) % 6 = 3 by omega])
            | (rw [show (k * 6 + 4) % 6 = 4 by omega])
            | (rw [show (k * 6 + 5) % 6 = 5 by omega])
          simp only [Array.getElem?_setIfInBounds, Array.size_setIfInBounds, Ev.cs]
          simp
          omega
      · have hset : (l.set k x)[q / 6]? = l[q / 6]? := List.getElem?_set_ne (Ne.symm hqk)
        have hlq : l[q / 6]? = some (l[q / 6]'(by omega)) := List.getElem?_eq_getElem (by omega)
        have hr := flat_get Ev.wide (hset.trans hlq) hqm
        have hr2 := flat_get Ev.wide hlq hqm
        rw [hsp] at hr hr2
        rw [hr, ← hr2, ← hold]
        simp only [Array.getElem?_setIfInBounds]
        rw [if_neg (by omega), if_neg (by omega), if_neg (by omega), if_neg (by omega), if_neg (by omega), if_neg (by omega)]
    · rw [if_neg hq, List.getElem?_eq_none]
      rw [flat_length Ev.wide, List.length_set, hl]
      omega
theorem own_put6_below {D : Nat} {v w : World} {g k : Nat} (h : Below D v w) (hg : D ≤ g) (x : Ev) : Below D v ((((((w.setCell ⟨g, k * 6, none⟩ (.int .i64 x.d)).setCell ⟨g, k * 6 + 1, none⟩ (.int .i64 x.k)).setCell ⟨g, k * 6 + 2, none⟩ (.string x.p)).setCell ⟨g, k * 6 + 3, none⟩ (.int .i64 x.n)).setCell ⟨g, k * 6 + 4, none⟩ (.bool x.ps)).setCell ⟨g, k * 6 + 5, none⟩ (.bool x.gr)) :=
  (((((h.setCell hg _).setCell hg _).setCell hg _).setCell hg _).setCell hg _).setCell hg _

end Go.Proofs.Ytechchkobmffgaa
