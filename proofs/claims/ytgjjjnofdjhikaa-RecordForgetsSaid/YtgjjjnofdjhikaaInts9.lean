/- Chapter 9, walks: Ints. -/
import Derived.Test.YtgjjjnofdjhikaaRefPlat9
import Derived.BigQuiet
namespace Go.Proofs.Ytgjjjnofdjhikaa
open Go.RowKit

set_option maxHeartbeats 1000000 in
theorem ints_any (A A' : Option Addr) (n c n' c' : Nat) (l m : List Int) (w : World) (h : Nums w w.heap.size A n c l) (h' : Nums w w.heap.size A' n' c' m) :
    Calls Try.prog 25 #[.slice A n c, .slice A' n' c'] w fun e w' => Below w.heap.size w w' ∧ e = .returned (.bool (decide (l = m))) := by
  have hcap := h.cap
  have hmax := h.max
  have hcap' := h'.cap
  have hmax' := h'.max
  have HL := Lib.hid h.len
  have HM := Lib.hid h'.len
  by_cases hn : n = n'
  · subst hn
    go_enter Try.func25, Try.ntmps25
    go_wp2
    go_loopw [5] (fun i wr => ∃ k : Nat, k ≤ n ∧ i = .int .i64 k ∧ Hid (l.take k = m.take k) ∧ ∃ q, wr = w.drewN q) (fun i _ => n - (intOf i).toNat)
    case atStart => exact ⟨0, Nat.zero_le _, rfl, Lib.hid rfl, 0, rfl⟩
    case round =>
      obtain ⟨k, hk, rfl, he, q, rfl⟩ := hrel
      by_cases hlt : k < n
      · obtain ⟨b, o, x, rfl, hb, hx, c0⟩ := h.at_ hlt
        obtain ⟨b', o', y, rfl, hb', hy, c1⟩ := h'.at_ hlt
        have HX := Lib.hid hx
        have HY := Lib.hid hy
        clear hx hy h h'
        by_cases hxy : x = y
        · subst hxy
          go_wp2
          go_quiet (fail)
          go_wp2
          go_roundw
          case rel =>
            refine ⟨k + 1, by omega, by go_num, Lib.hid ?_, _, rfl⟩
            obtain ⟨k1, e1⟩ := List.getElem?_eq_some_iff.1 HX.out
            obtain ⟨k2, e2⟩ := List.getElem?_eq_some_iff.1 HY.out
            rw [List.take_succ_eq_append_getElem k1, List.take_succ_eq_append_getElem k2, he.out, e1, e2]
          case measure => simp [intOf]; omega
        · have hne : (x != y) = true := by simpa using hxy
          have HN : Hid (l ≠ m) := Lib.hid (fun e => hxy (by have a := HX.out; rw [e, HY.out] at a; exact (Option.some.inj a).symm))
          clear hxy
          go_wp2
          go_quiet (fail)
          go_wp2
          go_ret
          exact ⟨(by repeat (first | with_reducible exact Below.refl _ _ | with_reducible assumption | with_reducible refine Below.drew ?_ | with_reducible refine Below.drewN ?_ _ | with_reducible refine Below.alloc2 ?_ _ | with_reducible refine Below.alloc ?_ (by first | omega | (simp <;> omega)) _ | with_reducible refine Below.setCell ?_ (by first | omega | (simp <;> omega)) _ | with_reducible refine Below.step2 (by with_reducible assumption) ?_ | with_reducible refine Below.step (by with_reducible assumption) ?_ (by first | omega | (simp <;> omega)))), ret_bool (by simpa using HN.out)⟩
      · have HE : Hid (l = m) := Lib.hid (by
          have := he.out
          rwa [List.take_of_length_le (by rw [HL.out]; omega), List.take_of_length_le (by rw [HM.out]; omega)] at this)
        clear h h' he
        go_wp2
        go_ret
        exact ⟨(by repeat (first | with_reducible exact Below.refl _ _ | with_reducible assumption | with_reducible refine Below.drew ?_ | with_reducible refine Below.drewN ?_ _ | with_reducible refine Below.alloc2 ?_ _ | with_reducible refine Below.alloc ?_ (by first | omega | (simp <;> omega)) _ | with_reducible refine Below.setCell ?_ (by first | omega | (simp <;> omega)) _ | with_reducible refine Below.step2 (by with_reducible assumption) ?_ | with_reducible refine Below.step (by with_reducible assumption) ?_ (by first | omega | (simp <;> omega)))), ret_bool (by simpa using HE.out)⟩
  · have hne : ((n : Int) != (n' : Int)) = true := by simp; omega
    have HN : Hid (l ≠ m) := Lib.hid (fun e => hn (by rw [← HL.out, ← HM.out, e]))
    clear h h' hn
    go_enter Try.func25, Try.ntmps25
    go_wp2
    go_ret
    exact ⟨(by repeat (first | with_reducible exact Below.refl _ _ | with_reducible assumption | with_reducible refine Below.drew ?_ | with_reducible refine Below.drewN ?_ _ | with_reducible refine Below.alloc2 ?_ _ | with_reducible refine Below.alloc ?_ (by first | omega | (simp <;> omega)) _ | with_reducible refine Below.setCell ?_ (by first | omega | (simp <;> omega)) _ | with_reducible refine Below.step2 (by with_reducible assumption) ?_ | with_reducible refine Below.step (by with_reducible assumption) ?_ (by first | omega | (simp <;> omega)))), ret_bool (by simpa using HN.out)⟩

end Go.Proofs.Ytgjjjnofdjhikaa
