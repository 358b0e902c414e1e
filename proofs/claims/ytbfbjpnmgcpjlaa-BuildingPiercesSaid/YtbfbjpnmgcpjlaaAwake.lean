/- The walks of Ell, Ints and awake. -/
import Derived.Test.YtbfbjpnmgcpjlaaDistance
namespace Go.Proofs.Ytbfbjpnmgcpjlaa
open Go.RowKit

def ell : List (Int × Int) := [(0, 0), (4000, 0), (4000, 2000), (2000, 2000), (2000, 4000), (0, 4000)]

set_option maxHeartbeats 1000000 in
theorem ell_any (w : World) : Calls Try.prog 42 #[] w fun e w' => Below w.heap.size w w' ∧ ∃ A, e = .returned (.slice A 6 6) ∧ Pts w' w'.heap.size A 6 6 ell := by
  go_enter Try.func42, Try.ntmps42
  go_wp2
  go_ret
  refine ⟨(by repeat (first | with_reducible exact Below.refl _ _ | with_reducible assumption | with_reducible refine Below.drew ?_ | with_reducible refine Below.drewN ?_ _ | with_reducible refine Below.alloc2 ?_ _ | with_reducible refine Below.alloc ?_ (by first | omega | (simp <;> omega)) _ | with_reducible refine Below.setCell ?_ (by first | omega | (simp <;> omega)) _ | with_reducible refine Below.step2 (by with_reducible assumption) ?_ | with_reducible refine Below.step (by with_reducible assumption) ?_ (by first | omega | (simp <;> omega)))), _, rfl, Pts.of_bk (t := 57) (g := w.heap.size) ?_ (by simp) rfl (Nat.le_refl _) (by omega)⟩
  exact Bk.at_ rfl

set_option maxHeartbeats 1000000 in
theorem ints_any (A A' : Option Addr) (n c n' c' : Nat) (l m : List Int) (w : World) (h : Nums w w.heap.size A n c l) (h' : Nums w w.heap.size A' n' c' m) :
    Calls Try.prog 28 #[.slice A n c, .slice A' n' c'] w fun e w' => Below w.heap.size w w' ∧ e = .returned (.bool (decide (l = m))) := by
  have hcap := h.cap
  have hmax := h.max
  have hcap' := h'.cap
  have hmax' := h'.max
  have HL := Lib.hid h.len
  have HM := Lib.hid h'.len
  by_cases hn : n = n'
  · subst hn
    go_enter Try.func28, Try.ntmps28
    go_wp2
    go_loopw [5] (fun i wr => ∃ k : Nat, k ≤ n ∧ i = .int .i64 k ∧ Hid (l.take k = m.take k) ∧ ∃ q, wr = w.drewN q) (fun i _ => n - (intOf i).toNat)
    case atStart => exact ⟨0, Nat.zero_le _, rfl, Lib.hid rfl, 0, rfl⟩
    case round =>
      obtain ⟨k, hk, rfl, he, q, rfl⟩ := hrel
      by_cases hlt : k < n
      · obtain ⟨b, o, x, rfl, hb, hx, c0⟩ := h.at_ hlt
        obtain ⟨b', o', y, rfl, hb', hy, c1⟩ := h'.at_ hlt
        have HX := Lib.hid hx
        have HY := Lib.hid hy
        clear hx hy h h'
        by_cases hxy : x = y
        · subst hxy
          go_wp2
          go_quiet (fail)
          go_wp2
          go_roundw
          case rel =>
            refine ⟨k + 1, by omega, by go_num, Lib.hid ?_, _, rfl⟩
            obtain ⟨k1, e1⟩ := List.getElem?_eq_some_iff.1 HX.out
            obtain ⟨k2, e2⟩ := List.getElem?_eq_some_iff.1 HY.out
            rw [List.take_succ_eq_append_getElem k1, List.take_succ_eq_append_getElem k2, he.out, e1, e2]
          case measure => simp [intOf]; omega
        · have hne : (x != y) = true := by simpa using hxy
          have HN : Hid (l ≠ m) := Lib.hid (fun e => hxy (by have a := HX.out; rw [e, HY.out] at a; exact (Option.some.inj a).symm))
          clear hxy
          go_wp2
          go_quiet (fail)
          go_wp2
          go_ret
          exact ⟨(by repeat (first | with_reducible exact Below.refl _ _ | with_reducible assumption | with_reducible refine Below.drew ?_ | with_reducible refine Below.drewN ?_ _ | with_reducible refine Below.alloc2 ?_ _ | with_reducible refine Below.alloc ?_ (by first | omega | (simp <;> omega)) _ | with_reducible refine Below.setCell ?_ (by first | omega | (simp <;> omega)) _ | with_reducible refine Below.step2 (by with_reducible assumption) ?_ | with_reducible refine Below.step (by with_reducible assumption) ?_ (by first | omega | (simp <;> omega)))), ret_bool (by simpa using HN.out)⟩
      · have HE : Hid (l = m) := Lib.hid (by
          have := he.out
          rwa [List.take_of_length_le (by rw [HL.out]; omega), List.take_of_length_le (by rw [HM.out]; omega)] at this)
        clear h h' he
        go_wp2
        go_ret
        exact ⟨(by repeat (first | with_reducible exact Below.refl _ _ | with_reducible assumption | with_reducible refine Below.drew ?_ | with_reducible refine Below.drewN ?_ _ | with_reducible refine Below.alloc2 ?_ _ | with_reducible refine Below.alloc ?_ (by first | omega | (simp <;> omega)) _ | with_reducible refine Below.setCell ?_ (by first | omega | (simp <;> omega)) _ | with_reducible refine Below.step2 (by with_reducible assumption) ?_ | with_reducible refine Below.step (by with_reducible assumption) ?_ (by first | omega | (simp <;> omega)))), ret_bool (by simpa using HE.out)⟩
  · have hne : ((n : Int) != (n' : Int)) = true := by simp; omega
    have HN : Hid (l ≠ m) := Lib.hid (fun e => hn (by rw [← HL.out, ← HM.out, e]))
    clear h h' hn
    go_enter Try.func28, Try.ntmps28
    go_wp2
    go_ret
    exact ⟨(by repeat (first | with_reducible exact Below.refl _ _ | with_reducible assumption | with_reducible refine Below.drew ?_ | with_reducible refine Below.drewN ?_ _ | with_reducible refine Below.alloc2 ?_ _ | with_reducible refine Below.alloc ?_ (by first | omega | (simp <;> omega)) _ | with_reducible refine Below.setCell ?_ (by first | omega | (simp <;> omega)) _ | with_reducible refine Below.step2 (by with_reducible assumption) ?_ | with_reducible refine Below.step (by with_reducible assumption) ?_ (by first | omega | (simp <;> omega)))), ret_bool (by simpa using HN.out)⟩

theorem ell_err : outErr ell = 0 := by decide
theorem ell_area : twice ell / 2 = 12000000 := by decide
theorem ell_bends : bends (sides ell) = [1, 1, 1, -1, 1, 1] := by decide
theorem ell_op : opErr ell 5000 5000 = 0 := by decide
theorem ell_dist : distR (sides ell) 5000 5000 = 10000000 := by decide

/-- What a call tells that makes memory and leaves the old as it is. -/
def Tells (P : Program) (f : FuncId) (args : Array Value) (v : Value) : Prop := ∀ W : World, Calls P f args W fun e w' => Below W.heap.size W w' ∧ e = .returned v

set_option maxRecDepth 100000 in
set_option maxHeartbeats 4000000 in
theorem awake_any : Tells Try.prog 10 #[] (.bool true) := by
  intro w
  have HA := Lib.hid (fun (A : Option Addr) (W : World) (h : Pts W W.heap.size A 6 6 ell) => by have := area_any A 6 6 ell W h; rwa [if_pos ell_err, ell_err, ell_area] at this)
  have HC := Lib.hid (fun (A : Option Addr) (W : World) (h : Pts W W.heap.size A 6 6 ell) => by have := corners_any A 6 6 ell W h; rwa [if_pos ell_err, ell_err, ell_bends] at this)
  have HD := Lib.hid (fun (A : Option Addr) (W : World) (h : Pts W W.heap.size A 6 6 ell) => by have := Distance_any A 6 6 ell 5000 5000 W h; rwa [if_pos ell_op, ell_op, ell_dist] at this)
  have HI := Lib.hid (fun (A A' : Option Addr) (n c n' c' : Nat) (l m : List Int) (W : World) (h : Nums W W.heap.size A n c l) (h' : Nums W W.heap.size A' n' c' m) => ints_any A A' n c n' c' l m W h h')
  go_enter Try.func10, Try.ntmps10
  go_wp2_with fail
  refine (ell_any _).mono ?_
  rintro e w1 ⟨hb1, A1, rfl, hp1⟩
  have HB1 := Lib.hid hb1
  have HP1 := Lib.hid hp1
  clear hb1 hp1
  go_wp2_with fail
  refine (HA.out A1 _ HP1.out).mono ?_
  rintro e w2 ⟨hb2, rfl⟩
  have HB2 := Lib.hid hb2
  clear hb2
  go_wp2_with fail
  refine (ell_any _).mono ?_
  rintro e w3 ⟨hb3, A3, rfl, hp3⟩
  have HB3 := Lib.hid hb3
  have HP3 := Lib.hid hp3
  clear hb3 hp3
  go_wp2_with fail
  refine (HC.out A3 _ HP3.out).mono ?_
  rintro e w4 ⟨hb4, A4, n4, c4, rfl, hn4⟩
  have HB4 := Lib.hid hb4
  have HN4 := Lib.hid hn4
  clear hb4 hn4
  go_wp2_with fail
  refine (ell_any _).mono ?_
  rintro e w5 ⟨hb5, A5, rfl, hp5⟩
  have HB5 := Lib.hid hb5
  have HP5 := Lib.hid hp5
  clear hb5 hp5
  go_wp2_with fail
  refine (HD.out A5 _ HP5.out).mono ?_
  rintro e w6 ⟨hb6, rfl⟩
  have HB6 := Lib.hid hb6
  clear hb6
  have HN6 := Lib.hid ((HN4.out.below HB5.out (Nat.le_refl _) HB5.out.size).below HB6.out (Nat.le_refl _) HB6.out.size)
  have HN7 : Hid (Nums (w6.alloc (.cells #[.int .i64 1, .int .i64 1, .int .i64 1, .int .i64 (-1), .int .i64 1, .int .i64 1] 3)) (w6.heap.size + 1) (some ⟨w6.heap.size, 0, none⟩) 6 6 [1, 1, 1, -1, 1, 1]) := Lib.hid (Nums.new w6 3 [1, 1, 1, -1, 1, 1] 6 rfl (by omega) _ rfl)
  have HN8 : Hid (Nums (w6.alloc (.cells #[.int .i64 1, .int .i64 1, .int .i64 1, .int .i64 (-1), .int .i64 1, .int .i64 1] 3)) (w6.heap.size + 1) A4 n4 c4 [1, 1, 1, -1, 1, 1]) := Lib.hid (HN6.out.below (Below.alloc (Below.refl _ _) (Nat.le_refl _) _) (Nat.le_refl _) (by omega))
  have HI2 := Lib.hid (HI.out A4 (some ⟨w6.heap.size, 0, none⟩) n4 c4 6 6 _ _ _ (HN8.out.mono (by simp)) (HN7.out.mono (by simp)))
  go_wp2_with fail
  refine HI2.out.mono ?_
  rintro e w7 ⟨hb7, rfl⟩
  go_wp2
  go_ret
  have hb1 := HB1.out
  have hb2 := HB2.out
  have hb3 := HB3.out
  have hb4 := HB4.out
  have hb5 := HB5.out
  have hb6 := HB6.out
  exact ⟨(by repeat (first | with_reducible exact Below.refl _ _ | with_reducible assumption | with_reducible refine Below.drew ?_ | with_reducible refine Below.drewN ?_ _ | with_reducible refine Below.alloc2 ?_ _ | with_reducible refine Below.alloc ?_ (by first | omega | (simp <;> omega)) _ | with_reducible refine Below.setCell ?_ (by first | omega | (simp <;> omega)) _ | with_reducible refine Below.step2 (by with_reducible assumption) ?_ | with_reducible refine Below.step (by with_reducible assumption) ?_ (by first | omega | (simp <;> omega)))), rfl⟩

end Go.Proofs.Ytbfbjpnmgcpjlaa
