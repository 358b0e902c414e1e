/- Chapter 8, walks: isChange, isPermitted of the program; Permitted of the reference. -/
import Derived.Test.YtmcefodfppdajaaPerm8
namespace Go.Proofs.Ytmcefodfppdajaa
open Go.RowKit Go.Deep

theorem Rws.of_bk {α : Type} {f : α → List Value} {size : Nat} {w : World} {g t B n : Nat} {l : List α} (hf : ∀ x, (f x).length = size) (h : Bk w g t (l.flatMap f).toArray) (hn : l.length = n) (hm : n ≤ 9223372036854775807) (hB : g < B) : Rws f size w B (some ⟨g, 0, none⟩) n n l := by
  refine ⟨?_, hn, fun e => by cases e⟩
  have hlen := flat_length hf l
  rw [hn] at hlen
  have := h.sl (size := size) (n := n) (c := n) hB (Nat.le_refl _) hm (by simpa using Nat.le_of_eq hlen.symm)
  have e : (l.flatMap f).toArray.toList.take (n * size) = l.flatMap f := by
    show (l.flatMap f).take (n * size) = _
    exact List.take_of_length_le (by rw [hlen]; exact Nat.le_refl _)
  rw [e] at this
  exact this
def chgA : List (Int × Int) := [(0, 1), (0, 3), (1, 3)]
def chgB : List (Int × Int) := [(1, 2), (2, 0), (2, 1), (3, 0), (3, 1)]
def chg (b a p : Int) : Bool := has2 chgA b a || (decide (p = 0) && has2 chgB b a)
set_option maxHeartbeats 2000000 in
theorem isChange_any (b a p : Int) (w : World) : Calls Try.prog 88 #[.agg #[.int .i64 b, .int .i64 a], .int .i64 p] w fun e w' => Below w.heap.size w w' ∧ e = .returned (.bool (chg b a p)) := by
  obtain ⟨v1, h1⟩ : ∃ v, has2 chgA b a = v := ⟨_, rfl⟩
  obtain ⟨v2, h2⟩ : ∃ v, has2 chgB b a = v := ⟨_, rfl⟩
  obtain ⟨v3, h3⟩ : ∃ v, (p == 0) = v := ⟨_, rfl⟩
  have HE : Hid (chg b a p = (v1 || (v3 && v2))) := Lib.hid (by
    unfold chg
    rw [h1, h2, ← h3]
    congr 1)
  obtain ⟨W3, hW3⟩ : ∃ W, ((w.alloc (.cells #[.int .i64 b, .int .i64 a] 23)).alloc (.cells #[.int .i64 0, .int .i64 1, .int .i64 0, .int .i64 3, .int .i64 1, .int .i64 3] 23)).alloc (.cells #[.int .i64 1, .int .i64 2, .int .i64 2, .int .i64 0, .int .i64 2, .int .i64 1, .int .i64 3, .int .i64 0, .int .i64 3, .int .i64 1] 23) = W := ⟨_, rfl⟩
  have hs3 : W3.heap.size = w.heap.size + 1 + 1 + 1 := by rw [← hW3]; simp
  have k0 : Bk W3 w.heap.size 23 #[.int .i64 b, .int .i64 a] := by rw [← hW3]; exact ((Bk.at_ rfl).alloc _).alloc _
  have k1 : Bk W3 (w.heap.size + 1) 23 (chgA.flatMap p2).toArray := by rw [← hW3]; exact (Bk.at_ (by simp)).alloc _
  have k2 : Bk W3 (w.heap.size + 1 + 1) 23 (chgB.flatMap p2).toArray := by rw [← hW3]; exact Bk.at_ (by simp)
  have HB3 : Hid (Below w.heap.size w W3) := Lib.hid (by rw [← hW3]; exact (by repeat (first | with_reducible exact Below.refl _ _ | with_reducible assumption | with_reducible refine Below.drew ?_ | with_reducible refine Below.drewN ?_ _ | with_reducible refine Below.alloc2 ?_ _ | with_reducible refine Below.alloc ?_ (by first | omega | (simp <;> omega)) _ | with_reducible refine Below.setCell ?_ (by first | omega | (simp <;> omega)) _ | with_reducible refine Below.step2 (by with_reducible assumption) ?_ | with_reducible refine Below.step (by with_reducible assumption) ?_ (by first | omega | (simp <;> omega)))))
  have CA : Hid (Calls Try.prog 104 #[.slice (some ⟨w.heap.size + 1, 0, none⟩) 3 3, .agg #[.int .i64 b, .int .i64 a]] W3 fun e w' => Below W3.heap.size W3 w' ∧ e = .returned (.bool v1)) := Lib.hid (by rw [← h1]; exact contains2_any _ 3 3 chgA b a W3 (Rws.of_bk p2_wide k1 rfl (by omega) (by omega)))
  have CB : Hid (∀ W, Below W3.heap.size W3 W → Calls Try.prog 104 #[.slice (some ⟨w.heap.size + 1 + 1, 0, none⟩) 5 5, .agg #[.int .i64 b, .int .i64 a]] W fun e w' => Below W.heap.size W w' ∧ e = .returned (.bool v2)) := Lib.hid fun W hW => by rw [← h2]; exact contains2_any _ 5 5 chgB b a W (Rws.of_bk p2_wide (k2.below hW (by omega)) rfl (by omega) (by have := hW.size; omega))
  have HK := Lib.hid k0
  obtain ⟨⟨c0, c1⟩, -⟩ := k0.two
  clear h1 h2 k0 k1 k2
  have HW3 := Lib.hid hW3
  clear hW3
  go_enter Try.func88, Try.ntmps88
  cases v1
  · cases v3
    · go_wp2_with ((go_at_call 104; rw [HW3.out]; with_reducible refine CA.out.mono ?_; rintro e w1 ⟨hb1, rfl⟩; have HB1 : Hid (Below w.heap.size w w1) := Lib.hid (HB3.out.trans (hb1.mono HB3.out.size)); have HC1 := Lib.hid hb1; obtain ⟨⟨d0, d1⟩, -⟩ := (HK.out.below hb1 HK.out.lt).two; clear hb1))
      go_ret
      exact ⟨HB1.out, ret_bool HE.out.symm⟩
    · go_wp2_with (first
        | (go_at_call 104; rw [HW3.out]; with_reducible refine CA.out.mono ?_; rintro e w1 ⟨hb1, rfl⟩; have HB1 : Hid (Below w.heap.size w w1) := Lib.hid (HB3.out.trans (hb1.mono HB3.out.size)); have HC1 := Lib.hid hb1; obtain ⟨⟨d0, d1⟩, -⟩ := (HK.out.below hb1 HK.out.lt).two; clear hb1)
        | (go_at_call 104; go_loud (with_reducible refine (CB.out _ HC1.out).mono ?_; rintro e w2 ⟨hb2, rfl⟩; have HB2 : Hid (Below w.heap.size w w2) := Lib.hid (HB1.out.trans (hb2.mono HB1.out.size)); clear hb2)))
      go_ret
      exact ⟨HB2.out, ret_bool HE.out.symm⟩
  · go_wp2_with ((go_at_call 104; rw [HW3.out]; with_reducible refine CA.out.mono ?_; rintro e w1 ⟨hb1, rfl⟩; have HB1 : Hid (Below w.heap.size w w1) := Lib.hid (HB3.out.trans (hb1.mono HB3.out.size)); have HC1 := Lib.hid hb1; obtain ⟨⟨d0, d1⟩, -⟩ := (HK.out.below hb1 HK.out.lt).two; clear hb1))
    go_ret
    exact ⟨HB1.out, ret_bool HE.out.symm⟩

end Go.Proofs.Ytmcefodfppdajaa
