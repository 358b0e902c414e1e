/- Walks of the reference: NodeErr, PointErr, Between, out, odd numbers. -/
import Derived.Test.YtbfbjpnmgcpjlaaGeo
import Derived.Test.YtbfbjpnmgcpjlaaRefA
import Derived.Deep.QuietTactic
import Derived.BigQuiet
namespace Go.Proofs.Ytbfbjpnmgcpjlaa
open Go.RowKit

def nodeErr (x y z : Int) : Int := if inB x && inB y && inB z then 0 else 2
set_option maxHeartbeats 1000000 in
theorem nodeErr_any (x y z : Int) (w : World) : Calls Try.prog 17 #[.agg #[.int .i64 x, .int .i64 y, .int .i64 z]] w fun e w' => Below w.heap.size w w' ∧ e = .returned (.int .i64 (nodeErr x y z)) := by
  unfold nodeErr
  rcases h1 : inB x
  · rw [if_neg (by simp)]
    go_enter Try.func17, Try.ntmps17
    go_wp2_with (go_at_call 45; refine (in_any _ _).mono ?_; rintro e w' ⟨rfl, rfl⟩)
    go_ret
    exact ⟨(by repeat (first | with_reducible exact Below.refl _ _ | with_reducible assumption | with_reducible refine Below.drew ?_ | with_reducible refine Below.drewN ?_ _ | with_reducible refine Below.alloc2 ?_ _ | with_reducible refine Below.alloc ?_ (by first | omega | (simp <;> omega)) _ | with_reducible refine Below.setCell ?_ (by first | omega | (simp <;> omega)) _ | with_reducible refine Below.step2 (by with_reducible assumption) ?_ | with_reducible refine Below.step (by with_reducible assumption) ?_ (by first | omega | (simp <;> omega)))), rfl⟩
  · rcases h2 : inB y
    · rw [if_neg (by simp)]
      go_enter Try.func17, Try.ntmps17
      go_wp2_with (go_at_call 45; refine (in_any _ _).mono ?_; rintro e w' ⟨rfl, rfl⟩)
      go_ret
      exact ⟨(by repeat (first | with_reducible exact Below.refl _ _ | with_reducible assumption | with_reducible refine Below.drew ?_ | with_reducible refine Below.drewN ?_ _ | with_reducible refine Below.alloc2 ?_ _ | with_reducible refine Below.alloc ?_ (by first | omega | (simp <;> omega)) _ | with_reducible refine Below.setCell ?_ (by first | omega | (simp <;> omega)) _ | with_reducible refine Below.step2 (by with_reducible assumption) ?_ | with_reducible refine Below.step (by with_reducible assumption) ?_ (by first | omega | (simp <;> omega)))), rfl⟩
    · rcases h3 : inB z
      · rw [if_neg (by simp)]
        go_enter Try.func17, Try.ntmps17
        go_wp2_with (go_at_call 45; refine (in_any _ _).mono ?_; rintro e w' ⟨rfl, rfl⟩)
        go_ret
        exact ⟨(by repeat (first | with_reducible exact Below.refl _ _ | with_reducible assumption | with_reducible refine Below.drew ?_ | with_reducible refine Below.drewN ?_ _ | with_reducible refine Below.alloc2 ?_ _ | with_reducible refine Below.alloc ?_ (by first | omega | (simp <;> omega)) _ | with_reducible refine Below.setCell ?_ (by first | omega | (simp <;> omega)) _ | with_reducible refine Below.step2 (by with_reducible assumption) ?_ | with_reducible refine Below.step (by with_reducible assumption) ?_ (by first | omega | (simp <;> omega)))), rfl⟩
      · rw [if_pos (by simp)]
        go_enter Try.func17, Try.ntmps17
        go_wp2_with (go_at_call 45; refine (in_any _ _).mono ?_; rintro e w' ⟨rfl, rfl⟩)
        go_ret
        exact ⟨(by repeat (first | with_reducible exact Below.refl _ _ | with_reducible assumption | with_reducible refine Below.drew ?_ | with_reducible refine Below.drewN ?_ _ | with_reducible refine Below.alloc2 ?_ _ | with_reducible refine Below.alloc ?_ (by first | omega | (simp <;> omega)) _ | with_reducible refine Below.setCell ?_ (by first | omega | (simp <;> omega)) _ | with_reducible refine Below.step2 (by with_reducible assumption) ?_ | with_reducible refine Below.step (by with_reducible assumption) ?_ (by first | omega | (simp <;> omega)))), rfl⟩

set_option maxHeartbeats 1000000 in
theorem pointErr_any (x y : Int) (w : World) : Calls Try.prog 32 #[.agg #[.int .i64 x, .int .i64 y]] w fun e w' => Below w.heap.size w w' ∧ e = .returned (.int .i64 (placeErr x y)) := by
  have he : nodeErr x y 0 = placeErr x y := by unfold nodeErr placeErr inP; rw [show inB 0 = true from rfl]; simp
  have HN := Lib.hid (fun W : World => nodeErr_any x y 0 W)
  rw [he] at HN
  clear he
  go_enter Try.func32, Try.ntmps32
  go_wp2_with fail
  refine (HN.out _).mono ?_
  rintro e w1 ⟨hb1, rfl⟩; obtain ⟨hc1, hf1⟩ := bcell hb1; have hz1 := hb1.size; (try simp at hz1)
  go_wp2
  go_ret
  exact ⟨(by repeat (first | with_reducible exact Below.refl _ _ | with_reducible assumption | with_reducible refine Below.drew ?_ | with_reducible refine Below.drewN ?_ _ | with_reducible refine Below.alloc2 ?_ _ | with_reducible refine Below.alloc ?_ (by first | omega | (simp <;> omega)) _ | with_reducible refine Below.setCell ?_ (by first | omega | (simp <;> omega)) _ | with_reducible refine Below.step2 (by with_reducible assumption) ?_ | with_reducible refine Below.step (by with_reducible assumption) ?_ (by first | omega | (simp <;> omega)))), rfl⟩

set_option maxHeartbeats 1000000 in
theorem between_any (n a b : Int) (w : World) : Calls Try.prog 65 #[.int .i64 n, .int .i64 a, .int .i64 b] w fun e w' => w = w' ∧ e = .returned (.bool (betw n a b)) := by
  unfold betw
  rcases Int.lt_or_le n (min a b) with h1 | h1
  · rw [decide_eq_false (by omega)]
    go_enter Try.func65, Try.ntmps65
    go_wp2
    go_ret
    exact ⟨rfl, rfl⟩
  · rcases Int.lt_or_le (max a b) n with h2 | h2
    · rw [decide_eq_false (by omega)]
      go_enter Try.func65, Try.ntmps65
      go_wp2
      go_ret
      exact ⟨rfl, ret_bool (by first | rfl | (simp; omega))⟩
    · rw [decide_eq_true (by omega)]
      go_enter Try.func65, Try.ntmps65
      go_wp2
      go_ret
      exact ⟨rfl, ret_bool (by first | rfl | (simp; omega))⟩

set_option maxHeartbeats 1000000 in
theorem out_any (n a b : Int) (w : World) (h1 : -1000000 ≤ n ∧ n ≤ 1000000) (h2 : -1000000 ≤ a ∧ a ≤ 1000000) (h3 : -1000000 ≤ b ∧ b ≤ 1000000) :
    Calls Try.prog 66 #[.int .i64 n, .int .i64 a, .int .i64 b] w fun e w' => w = w' ∧ e = .returned (.int .i64 (outI n a b)) := by
  obtain ⟨h11, h12⟩ := h1
  obtain ⟨h21, h22⟩ := h2
  obtain ⟨h31, h32⟩ := h3
  unfold outI
  go_enter Try.func66, Try.ntmps66
  go_wp2
  go_ret
  exact ⟨rfl, ret_int (by first | rfl | omega)⟩

/-- A call that leaves the world alone, met behind draws in a region that only reads. -/
theorem quiet_left {P : Program} {f : FuncId} {args : Array Value} {w : World} {n : Nat} {v : Value}
    (h : Calls P f args (w.drewN n) fun e w' => w.drewN n = w' ∧ e = .returned v) : Calls P f args (w.drewN n) fun e w'' => e = .returned v ∧ ∃ m, w'' = w.drewN m :=
  h.mono fun _ _ ⟨hm, he⟩ => ⟨he, n, hm.symm⟩

/-- 1 or -1 by a number of crossings. -/
def odd (c : Nat) : Int := if c % 2 = 1 then 1 else -1
theorem odd_succ (c : Nat) : odd (c + 1) = -odd c := by
  unfold odd
  by_cases h : c % 2 = 1
  · rw [if_neg (by omega), if_pos h]
  · rw [if_pos (by omega), if_neg h]; rfl

end Go.Proofs.Ytbfbjpnmgcpjlaa
