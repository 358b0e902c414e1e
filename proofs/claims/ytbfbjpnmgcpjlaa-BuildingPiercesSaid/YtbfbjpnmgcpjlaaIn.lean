/- Ranges of numbers: inRange, Within, In. -/
import Derived.Test.YtbfbjpnmgcpjlaaProg
import Derived.Test.YtbfbjpnmgcpjlaaCells
import Derived.StillTailTactics
namespace Go.Proofs.Ytbfbjpnmgcpjlaa
open Go.RowKit

/-- A number may be a coordinate. -/
def inB (z : Int) : Bool := decide (-1000000 ≤ z ∧ z ≤ 1000000)
theorem inB_true {z : Int} (h : -1000000 ≤ z) (h2 : z ≤ 1000000) : inB z = true := by unfold inB; simp; omega
theorem inB_false {z : Int} (h : z < -1000000 ∨ 1000000 < z) : inB z = false := by unfold inB; simp; omega
theorem inB_iff {z : Int} : inB z = true ↔ -1000000 ≤ z ∧ z ≤ 1000000 := by unfold inB; simp

theorem all_snoc {l : List Int} {k : Nat} {x : Int} (hx : l[k]? = some x) (h : (l.take k).all inB = true) (h2 : inB x = true) : (l.take (k + 1)).all inB = true := by
  obtain ⟨hk, rfl⟩ := List.getElem?_eq_some_iff.1 hx
  rw [List.take_succ_eq_append_getElem hk, List.all_append, h]
  simpa using h2
theorem all_not {l : List Int} {k : Nat} {x : Int} (hx : l[k]? = some x) (h2 : inB x = false) : l.all inB = false := by
  rw [List.all_eq_false]
  exact ⟨x, List.mem_of_getElem? hx, by rw [h2]; simp⟩

set_option maxHeartbeats 400000 in
theorem inRange_any (A : Option Addr) (n c B : Nat) (zs : List Int) (w : World) (h : Nums w B A n c zs) :
    Calls Try.prog 46 #[.slice A n c] w fun e w' => w = w' ∧ e = .returned (.bool (zs.all inB)) := by
  have hcap := h.cap
  have hmax := h.max
  have hlen := Lib.hid h.len
  go_enter Try.func46, Try.ntmps46
  go_wp2
  go_loop [4, 7] (fun _ i => ∃ k : Nat, k ≤ n ∧ i = .int .i64 k ∧ Hid ((zs.take k).all inB = true)) (fun _ i => n - (intOf i).toNat)
  case atStart => exact ⟨0, Nat.zero_le _, rfl, by exact Lib.hid rfl⟩
  case round =>
    obtain ⟨k, hk, rfl, hall⟩ := hrel
    by_cases hlt : k < n
    · obtain ⟨b, o, x, rfl, hb, hx, hc⟩ := h.at_ hlt
      have HX := Lib.hid hx
      clear hx
      by_cases h1 : x < -1000000
      · go_wp2
        go_ret
        exact ⟨rfl, ret_bool (all_not HX.out (inB_false (.inl h1))).symm⟩
      · by_cases h2 : 1000000 < x
        · go_wp2
          go_ret
          exact ⟨rfl, ret_bool (all_not HX.out (inB_false (.inr h2))).symm⟩
        · go_wp2
          go_round
          case rel => exact ⟨k + 1, by omega, by go_num, Lib.hid (all_snoc HX.out hall.out (inB_true (by omega) (by omega)))⟩
          case measure => simp [intOf]; omega
    · go_wp2
      go_ret
      refine ⟨rfl, ret_bool ?_⟩
      have := hall.out
      rwa [List.take_of_length_le (by rw [hlen.out]; omega), eq_comm] at this

set_option maxHeartbeats 400000 in
theorem within_any (n a b : Int) (w : World) : Calls Try.prog 36 #[.int .i64 n, .int .i64 a, .int .i64 b] w fun e w' => w = w' ∧ e = .returned (.bool (decide (a ≤ n ∧ n ≤ b))) := by
  by_cases h1 : a ≤ n <;> by_cases h2 : n ≤ b
  all_goals
    go_enter Try.func36, Try.ntmps36
    go_wp2
    go_ret
    exact ⟨rfl, ret_bool (by simp [h1, h2])⟩

set_option maxHeartbeats 400000 in
theorem in_any (n : Int) (w : World) : Calls Try.prog 45 #[.int .i64 n] w fun e w' => w = w' ∧ e = .returned (.bool (inB n)) := by
  go_enter Try.func45, Try.ntmps45
  go_wp2_with (go_at_call 36; refine (within_any _ _ _ _).mono ?_; rintro e w' ⟨rfl, rfl⟩)
  go_ret
  exact ⟨rfl, ret_bool (by simp [inB])⟩

end Go.Proofs.Ytbfbjpnmgcpjlaa
