/- Chapter 9, walks: of the law terms, moves, sameLots. -/
import Derived.Test.YtbeijeblbchglaaTwoW9
namespace Go.Proofs.Ytbeijeblbchglaa
open Go.RowKit Go.WideShapes

theorem info_term9 : (Try.prog.info? 56).map (fun i => (i.zero.map (·.cells.size), i.size, i.bytes)) = some (some 4, 4, 40) := by kernel_rfl
theorem info_move9 : (Try.prog.info? 90).map (fun i => (i.zero.map (·.cells.size), i.size, i.bytes)) = some (some 4, 4, 40) := by kernel_rfl
set_option maxRecDepth 100000 in
set_option maxHeartbeats 2000000 in
theorem terms_any (A : Option Addr) (n c : Nat) (l : List Q4) (w : World) (h : Rws Q4.cs 4 w w.heap.size A n c l) (hn : n ≤ 500) :
    Calls Try.prog 22 #[.slice A n c] w fun e w' => Below w.heap.size w w' ∧ ∃ v, e = .returned v ∧ w'.ownsRow w.heap.size 56 4 v n (l.flatMap Q4.cs) := by
  have H : Hid (∀ w', Below w.heap.size w w' → Rws Q4.cs 4 w' w.heap.size A n c l) := fun w' hb => h.below hb (Nat.le_refl _) (Nat.le_refl _)
  obtain ⟨i0, z, hi0, hz0, hzs, hz1, hz2⟩ := info_cells info_term9
  have HI0 := Lib.hid hi0
  have HZ0 := Lib.hid hz0
  have HZ1 := Lib.hid hz1
  have HZ2 := Lib.hid hz2
  have HZS := Lib.hid hzs
  clear h hi0 hz0 hz1 hz2 hzs
  go_enter Try.func22, Try.ntmps22
  go_wp2_with (at_builtin; refine wpList_copy rfl _ _ _ rfl w.heap.size 56 i0 _ 4 40 Try.underlying39 HI0.out HZ0.out HZ1.out HZ2.out HZS.out (by omega) _ rfl (World.ownsRow_made _ #[] 0 (Nat.le_refl _) (by unfold maxLen; omega) rfl) Q4.wide rfl (H.out _ (by exact (by repeat (first | with_reducible exact Below.refl _ _ | with_reducible assumption | with_reducible refine Below.drew ?_ | with_reducible refine Below.drewN ?_ _ | with_reducible refine Below.alloc2 ?_ _ | with_reducible refine Below.alloc ?_ (by first | omega | (simp <;> omega)) _ | with_reducible refine Below.setCell ?_ (by first | omega | (simp <;> omega)) _ | with_reducible refine Below.step2 (by with_reducible assumption) ?_ | with_reducible refine Below.step (by with_reducible assumption) ?_ (by first | omega | (simp <;> omega)))))) (ones_of Q4.one l) (by unfold maxLen; omega) (by omega) (by simp) ?_; intro v1 w2 hown1 hg1; have HO1 := Lib.hid hown1; have HG1 := Lib.hid hg1; clear hown1 hg1)
  go_ret
  exact ⟨Below.grown_ (D := w.heap.size) (by exact (by repeat (first | with_reducible exact Below.refl _ _ | with_reducible assumption | with_reducible refine Below.drew ?_ | with_reducible refine Below.drewN ?_ _ | with_reducible refine Below.alloc2 ?_ _ | with_reducible refine Below.alloc ?_ (by first | omega | (simp <;> omega)) _ | with_reducible refine Below.setCell ?_ (by first | omega | (simp <;> omega)) _ | with_reducible refine Below.step2 (by with_reducible assumption) ?_ | with_reducible refine Below.step (by with_reducible assumption) ?_ (by first | omega | (simp <;> omega))))) HG1.out (by simp) (fun q hq => by cases hq; exact Nat.le_refl _), _, rfl, HO1.out⟩
set_option maxRecDepth 100000 in
set_option maxHeartbeats 2000000 in
theorem moves_any (A : Option Addr) (n c : Nat) (l : List Mv) (w : World) (h : Rws Mv.cs 4 w w.heap.size A n c l) (hn : n ≤ 500) :
    Calls Try.prog 25 #[.slice A n c] w fun e w' => Below w.heap.size w w' ∧ ∃ v, e = .returned v ∧ w'.ownsRow w.heap.size 90 4 v n (l.flatMap Mv.cs) := by
  have H : Hid (∀ w', Below w.heap.size w w' → Rws Mv.cs 4 w' w.heap.size A n c l) := fun w' hb => h.below hb (Nat.le_refl _) (Nat.le_refl _)
  obtain ⟨i0, z, hi0, hz0, hzs, hz1, hz2⟩ := info_cells info_move9
  have HI0 := Lib.hid hi0
  have HZ0 := Lib.hid hz0
  have HZ1 := Lib.hid hz1
  have HZ2 := Lib.hid hz2
  have HZS := Lib.hid hzs
  clear h hi0 hz0 hz1 hz2 hzs
  go_enter Try.func25, Try.ntmps25
  go_wp2_with (at_builtin; refine wpList_copy rfl _ _ _ rfl w.heap.size 90 i0 _ 4 40 Try.underlying40 HI0.out HZ0.out HZ1.out HZ2.out HZS.out (by omega) _ rfl (World.ownsRow_made _ #[] 0 (Nat.le_refl _) (by unfold maxLen; omega) rfl) Mv.wide rfl (H.out _ (by exact (by repeat (first | with_reducible exact Below.refl _ _ | with_reducible assumption | with_reducible refine Below.drew ?_ | with_reducible refine Below.drewN ?_ _ | with_reducible refine Below.alloc2 ?_ _ | with_reducible refine Below.alloc ?_ (by first | omega | (simp <;> omega)) _ | with_reducible refine Below.setCell ?_ (by first | omega | (simp <;> omega)) _ | with_reducible refine Below.step2 (by with_reducible assumption) ?_ | with_reducible refine Below.step (by with_reducible assumption) ?_ (by first | omega | (simp <;> omega)))))) (ones_of Mv.one l) (by unfold maxLen; omega) (by omega) (by simp) ?_; intro v1 w2 hown1 hg1; have HO1 := Lib.hid hown1; have HG1 := Lib.hid hg1; clear hown1 hg1)
  go_ret
  exact ⟨Below.grown_ (D := w.heap.size) (by exact (by repeat (first | with_reducible exact Below.refl _ _ | with_reducible assumption | with_reducible refine Below.drew ?_ | with_reducible refine Below.drewN ?_ _ | with_reducible refine Below.alloc2 ?_ _ | with_reducible refine Below.alloc ?_ (by first | omega | (simp <;> omega)) _ | with_reducible refine Below.setCell ?_ (by first | omega | (simp <;> omega)) _ | with_reducible refine Below.step2 (by with_reducible assumption) ?_ | with_reducible refine Below.step (by with_reducible assumption) ?_ (by first | omega | (simp <;> omega))))) HG1.out (by simp) (fun q hq => by cases hq; exact Nat.le_refl _), _, rfl, HO1.out⟩
set_option maxRecDepth 100000 in
set_option maxHeartbeats 2000000 in
theorem sameLots_eq (A A2 : Option Addr) (n c c2 : Nat) (l : List Lt) (w : World) (h : Rws Lt.cs 5 w w.heap.size A n c l) (h2 : Rws Lt.cs 5 w w.heap.size A2 n c2 l) :
    Calls Try.prog 27 #[.slice A n c, .slice A2 n c2] w fun e w' => Below w.heap.size w w' ∧ e = .returned (.bool true) := by
  have hcap := h.cap
  have hmax := h.max
  have hcap2 := h2.cap
  have hmax2 := h2.max
  have H : Hid (∀ w', Below w.heap.size w w' → Rws Lt.cs 5 w' w.heap.size A n c l) := fun w' hb => h.below hb (Nat.le_refl _) (Nat.le_refl _)
  have H2 : Hid (∀ w', Below w.heap.size w w' → Rws Lt.cs 5 w' w.heap.size A2 n c2 l) := fun w' hb => h2.below hb (Nat.le_refl _) (Nat.le_refl _)
  clear h h2
  go_enter Try.func27, Try.ntmps27
  go_wp2
  go_loopw [5] (fun i wr => ∃ k : Nat, k ≤ n ∧ i = .int .i64 k ∧ Below w.heap.size w wr) (fun i _ => n - (intOf i).toNat)
  case atStart => exact ⟨0, Nat.zero_le _, rfl, (by repeat (first | with_reducible exact Below.refl _ _ | with_reducible assumption | with_reducible refine Below.drew ?_ | with_reducible refine Below.drewN ?_ _ | with_reducible refine Below.alloc2 ?_ _ | with_reducible refine Below.alloc ?_ (by first | omega | (simp <;> omega)) _ | with_reducible refine Below.setCell ?_ (by first | omega | (simp <;> omega)) _ | with_reducible refine Below.step2 (by with_reducible assumption) ?_ | with_reducible refine Below.step (by with_reducible assumption) ?_ (by first | omega | (simp <;> omega))))⟩
  case round =>
    obtain ⟨k, hk, rfl, hb⟩ := hrel
    have HB := Lib.hid hb
    have ow := hb.size
    by_cases hlt : k < n
    · obtain ⟨b, o, ⟨xp, xn, xi, xd, xo⟩, rfl, hbb, hx, c0, c1, c2, c3, c4⟩ := (H.out _ hb).lt hlt
      obtain ⟨b2, o2, x2, rfl, hbb2, hx2, d0, d1, d2, d3, d4⟩ := (H2.out _ hb).lt hlt
      obtain rfl : x2 = ⟨xp, xn, xi, xd, xo⟩ := by rw [hx] at hx2; exact (Option.some.inj hx2).symm
      dsimp only at c0 c1 c2 c3 c4 d0 d1 d2 d3 d4
      have z1 : (0 : Int) ≤ (k : Int) := by omega
      have z2 : (k : Int) < (n : Int) := by omega
      clear hx hx2 hb
      go_wp2
      go_quiet (fail)
      go_wp2
      go_roundw
      case rel =>
        have hb0 := HB.out
        exact ⟨k + 1, by omega, by go_num, (by repeat (first | with_reducible exact Below.refl _ _ | with_reducible assumption | with_reducible refine Below.drew ?_ | with_reducible refine Below.drewN ?_ _ | with_reducible refine Below.alloc2 ?_ _ | with_reducible refine Below.alloc ?_ (by first | omega | (simp <;> omega)) _ | with_reducible refine Below.setCell ?_ (by first | omega | (simp <;> omega)) _ | with_reducible refine Below.step2 (by with_reducible assumption) ?_ | with_reducible refine Below.step (by with_reducible assumption) ?_ (by first | omega | (simp <;> omega))))⟩
      case measure => simp [intOf]; omega
    · go_wp2
      go_ret
      exact ⟨HB.out, rfl⟩

end Go.Proofs.Ytbeijeblbchglaa
