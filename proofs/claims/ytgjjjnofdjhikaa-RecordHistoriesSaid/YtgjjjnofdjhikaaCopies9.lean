/- Chapter 9, walks: copies of records, stores into them, equal records. -/
import Derived.Test.YtgjjjnofdjhikaaCheckRec9
import Derived.Laws.Cover3
namespace Go.Proofs.Ytgjjjnofdjhikaa
open Go.RowKit Go.WideShapes

theorem info_ev : (Try.prog.info? 24).map (fun i => (i.zero.map (·.cells.size), i.size, i.bytes)) = some (some 6, 6, 48) := by kernel_rfl
set_option maxRecDepth 100000 in
set_option maxHeartbeats 2000000 in
theorem copied_any (A : Option Addr) (n c : Nat) (l : List Ev) (w : World) (h : Rws Ev.cs 6 w w.heap.size A n c l) (hn : n ≤ 500) :
    Calls Try.prog 13 #[.slice A n c] w fun e w' => Below w.heap.size w w' ∧ ∃ v, e = .returned v ∧ w'.ownsRow w.heap.size 24 6 v n (l.flatMap Ev.cs) := by
  have H : Hid (∀ w', Below w.heap.size w w' → Rws Ev.cs 6 w' w.heap.size A n c l) := fun w' hb => h.below hb (Nat.le_refl _) (Nat.le_refl _)
  obtain ⟨i0, z, hi0, hz0, hzs, hz1, hz2⟩ := info_cells info_ev
  have HI0 := Lib.hid hi0
  have HZ0 := Lib.hid hz0
  have HZ1 := Lib.hid hz1
  have HZ2 := Lib.hid hz2
  have HZS := Lib.hid hzs
  clear h hi0 hz0 hz1 hz2 hzs
  go_enter Try.func13, Try.ntmps13
  go_wp2_with (at_builtin; refine wpList_copy rfl _ _ _ rfl w.heap.size 24 i0 _ 6 48 Try.underlying22 HI0.out HZ0.out HZ1.out HZ2.out HZS.out (by omega) _ rfl (World.ownsRow_made _ #[] 0 (Nat.le_refl _) (by unfold maxLen; omega) rfl) Ev.wide rfl (H.out _ (by exact (by repeat (first | with_reducible exact Below.refl _ _ | with_reducible assumption | with_reducible refine Below.drew ?_ | with_reducible refine Below.drewN ?_ _ | with_reducible refine Below.alloc2 ?_ _ | with_reducible refine Below.alloc ?_ (by first | omega | (simp <;> omega)) _ | with_reducible refine Below.setCell ?_ (by first | omega | (simp <;> omega)) _ | with_reducible refine Below.step2 (by with_reducible assumption) ?_ | with_reducible refine Below.step (by with_reducible assumption) ?_ (by first | omega | (simp <;> omega)))))) (ones_of Ev.one l) (by unfold maxLen; omega) (by omega) (by simp) ?_; intro v1 w2 hown1 hg1; have HO1 := Lib.hid hown1; have HG1 := Lib.hid hg1; clear hown1 hg1)
  go_ret
  exact ⟨Below.grown_ (D := w.heap.size) (by exact (by repeat (first | with_reducible exact Below.refl _ _ | with_reducible assumption | with_reducible refine Below.drew ?_ | with_reducible refine Below.drewN ?_ _ | with_reducible refine Below.alloc2 ?_ _ | with_reducible refine Below.alloc ?_ (by first | omega | (simp <;> omega)) _ | with_reducible refine Below.setCell ?_ (by first | omega | (simp <;> omega)) _ | with_reducible refine Below.step2 (by with_reducible assumption) ?_ | with_reducible refine Below.step (by with_reducible assumption) ?_ (by first | omega | (simp <;> omega))))) HG1.out (by simp) (fun q hq => by cases hq; exact Nat.le_refl _), _, rfl, HO1.out⟩

end Go.Proofs.Ytgjjjnofdjhikaa
