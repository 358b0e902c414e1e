/- Walks: codeWith. -/
import Derived.Test.YtkcbfkflkepfeaaPartsOf
namespace Go.Proofs.Ytkcbfkflkepfeaa
open Go.RowKit

set_option maxHeartbeats 2000000 in
theorem codeWith_any (PA TA : Option Addr) (pn pc tn tc : Nat) (u : Int) (T : List Int) (p : Part) (k : Nat) (w : World) (h : Ints w w.heap.size TA tn tc T) (hp : p.Fine) (hk : k ≤ tn) (hk2 : k ≤ 4000) (hT : Codes T 1000000000) :
    Calls Try.prog 57 #[.agg #[.int .i64 u, .slice PA pn pc, .slice TA tn tc], .agg #[.int .i64 p.len, .int .i64 p.units, .int .i64 p.code, .bool p.board], .int .i64 (k : Int)] w fun e w' => Below w.heap.size w w' ∧ e = .returned (.int .i64 (codeAt T p k)) := by
  have hcap := h.nums.cap
  have hmax := h.nums.max
  obtain ⟨⟨h1, h2⟩, h3, h4⟩ := hp
  by_cases hku : (k : Int) < p.units
  · have hE : codeAt T p k = -1 := by unfold codeAt; rw [if_pos hku]
    rw [hE]
    clear hE
    go_enter Try.func57, Try.ntmps57
    go_wp2
    go_ret
    exact ⟨(by repeat (first | with_reducible exact Below.refl _ _ | with_reducible assumption | with_reducible refine Below.drew ?_ | with_reducible refine Below.drewN ?_ _ | with_reducible refine Below.alloc2 ?_ _ | with_reducible refine Below.alloc ?_ (by first | omega | (simp <;> omega)) _ | with_reducible refine Below.setCell ?_ (by first | omega | (simp <;> omega)) _ | with_reducible refine Below.step2 (by with_reducible assumption) ?_ | with_reducible refine Below.step (by with_reducible assumption) ?_ (by first | omega | (simp <;> omega)))), rfl⟩
  · obtain ⟨j, hj⟩ : ∃ j : Nat, (j : Int) = (k : Int) - p.units := ⟨((k : Int) - p.units).toNat, by omega⟩
    have hju : k - p.units.toNat = j := by omega
    obtain ⟨b, o, x, rfl, hbb, hx, c0⟩ := h.nums.at_ (show j < tn by omega)
    have hxT := getD_of hx
    have hb := hT.at_ (by omega) j
    rw [hxT] at hb
    obtain ⟨hb1, hb2⟩ := hb
    have hw1 : IntKind.i64.wrap ((k : Int) - p.units) = (j : Int) := by rw [IntWalk.i64_in _ (by omega), hj]
    have hw2 : IntKind.i64.wrap (x + p.code) = x + p.code := IntWalk.i64_in _ (by omega)
    have ob : b < w.heap.size + 1 := by omega
    have ob2 : b < w.heap.size + 1 + 1 := by omega
    have hE : codeAt T p k = if x = -1 then -1 else x + p.code := by unfold codeAt; rw [if_neg hku, hju, hxT]
    have HE := Lib.hid hE
    have hjt : j < tn := by omega
    clear hx hxT h hT hE hj hju
    by_cases hx1 : x = -1
    · have hE : codeAt T p k = -1 := by rw [HE.out, if_pos hx1]
      rw [hE]
      clear hE HE
      subst hx1
      go_enter Try.func57, Try.ntmps57
      go_wp2
      go_ret
      exact ⟨(by repeat (first | with_reducible exact Below.refl _ _ | with_reducible assumption | with_reducible refine Below.drew ?_ | with_reducible refine Below.drewN ?_ _ | with_reducible refine Below.alloc2 ?_ _ | with_reducible refine Below.alloc ?_ (by first | omega | (simp <;> omega)) _ | with_reducible refine Below.setCell ?_ (by first | omega | (simp <;> omega)) _ | with_reducible refine Below.step2 (by with_reducible assumption) ?_ | with_reducible refine Below.step (by with_reducible assumption) ?_ (by first | omega | (simp <;> omega)))), rfl⟩
    · have hE : codeAt T p k = x + p.code := by rw [HE.out, if_neg hx1]
      rw [hE]
      clear hE HE
      have hxb : (x == -1) = false := by simpa using hx1
      go_enter Try.func57, Try.ntmps57
      go_wp2
      go_quiet (fail)
      go_wp2
      go_ret
      exact ⟨(by repeat (first | with_reducible exact Below.refl _ _ | with_reducible assumption | with_reducible refine Below.drew ?_ | with_reducible refine Below.drewN ?_ _ | with_reducible refine Below.alloc2 ?_ _ | with_reducible refine Below.alloc ?_ (by first | omega | (simp <;> omega)) _ | with_reducible refine Below.setCell ?_ (by first | omega | (simp <;> omega)) _ | with_reducible refine Below.step2 (by with_reducible assumption) ?_ | with_reducible refine Below.step (by with_reducible assumption) ?_ (by first | omega | (simp <;> omega)))), rfl⟩

end Go.Proofs.Ytkcbfkflkepfeaa
