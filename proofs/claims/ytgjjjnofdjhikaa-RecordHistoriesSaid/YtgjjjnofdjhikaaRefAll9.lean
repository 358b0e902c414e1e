/- Chapter 9: CheckRecord of the reference, for every record; an operation whose guard is met. -/
import Derived.Test.YtgjjjnofdjhikaaRefRec9
import Derived.Test.YtgjjjnofdjhikaaLineG
namespace Go.Proofs.Ytgjjjnofdjhikaa
open Go Go.RowKit Go.WideShapes Go.Proofs.Ytgjjjnofdjhikaa.Sim

theorem wpList_met {P : Program} {ops : Array Oper} {Q : Exit → Act → World → Prop} {rest : List Oper} {o : Oper} {a : Act} {w : World} (hw : Region.wanted o (yielded ops a.tmps) = true)
    (h : wpList P ops Q ({ o with guard := none } :: rest) a w) : wpList P ops Q (o :: rest) a w := by
  unfold wpList at h ⊢
  rw [if_pos hw]
  rw [if_pos (by simp [Region.wanted])] at h
  exact h
theorem refCheckRec_all (A : Option Addr) (n c : Nat) (l : List Ev) (w : World) (h : Rws Ev.cs 6 w w.heap.size A n c l) (hs : n ≤ 400 → ∀ x ∈ l, x.p.size ≤ 30) :
    Calls Try.prog 11 #[.slice A n c] w fun e w' => Below w.heap.size w w' ∧ e = .returned (.int .i64 (recErr l)) := by
  by_cases hbig : 400 < n
  · have hcap := h.cap
    have hmax := h.max
    have HR : Hid (recErr l = 8) := Lib.hid (by rw [recErr, h.len, if_pos hbig])
    clear h hs
    go_enter Try.func11, Try.ntmps11
    go_wp2
    go_ret
    exact ⟨(by repeat (first | with_reducible exact Below.refl _ _ | with_reducible assumption | with_reducible refine Below.drew ?_ | with_reducible refine Below.drewN ?_ _ | with_reducible refine Below.alloc2 ?_ _ | with_reducible refine Below.alloc ?_ (by first | omega | (simp <;> omega)) _ | with_reducible refine Below.setCell ?_ (by first | omega | (simp <;> omega)) _ | with_reducible refine Below.step2 (by with_reducible assumption) ?_ | with_reducible refine Below.step (by with_reducible assumption) ?_ (by first | omega | (simp <;> omega)))), ret_int HR.out.symm⟩
  · exact refCheckRecord_any A n c l w h (hs (by omega))

end Go.Proofs.Ytgjjjnofdjhikaa
