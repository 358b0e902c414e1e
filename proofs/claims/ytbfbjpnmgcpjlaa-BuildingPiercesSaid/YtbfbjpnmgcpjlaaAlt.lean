/- Walks: the side before; whether sides alternate. -/
import Derived.Test.YtbfbjpnmgcpjlaaAllSides
import Derived.Deep.QuietTactic
import Derived.BigQuiet
namespace Go.Proofs.Ytbfbjpnmgcpjlaa
open Go.RowKit

/-- The place before in a ring of n. -/
def pv (n k : Nat) : Nat := if k = 0 then n - 1 else k - 1
theorem pv_lt {n k : Nat} (h : k < n) : pv n k < n := by unfold pv; split <;> omega
theorem pv_mod {n k : Nat} (h : k < n) : ((k : Int) + (n : Int) - 1) % (n : Int) = (pv n k : Int) := by
  unfold pv
  split
  · rename_i e
    rw [e, Int.emod_eq_of_lt (by omega) (by omega)]
    omega
  · rw [show ((k : Int) + (n : Int) - 1) = ((k : Int) - 1) + (n : Int) from by omega, Int.add_emod_right, Int.emod_eq_of_lt (by omega) (by omega)]
    omega

def Side.zero : Side := ⟨0, 0, 0, 0, 0, 0⟩
/-- Side k of a list. -/
def sd (ss : List Side) (k : Nat) : Side := ss.getD k Side.zero
theorem sd_of {ss : List Side} {k : Nat} {s : Side} (h : ss[k]? = some s) : sd ss k = s := by unfold sd; rw [List.getD_eq_getElem?_getD, h]; rfl

set_option maxHeartbeats 1000000 in
theorem before_any (A : Option Addr) (n c k : Nat) (ss : List Side) (w : World) (h : Walls w w.heap.size A n c ss) (hk : k < n) (hn : n ≤ 1099511627776) :
    Calls Try.prog 75 #[.slice A n c, .int .i64 (k : Int)] w fun e w' => Below w.heap.size w w' ∧ e = .returned (.agg #[.int .i64 (sd ss (pv n k)).x1, .int .i64 (sd ss (pv n k)).y1, .int .i64 (sd ss (pv n k)).x2, .int .i64 (sd ss (pv n k)).y2, .int .i64 (sd ss (pv n k)).len, .int .i64 (sd ss (pv n k)).dir]) := by
  have hcap := h.cap
  have hmax := h.max
  have hj := pv_lt hk
  obtain ⟨b, o, s, rfl, hbb, hx, c0, c1, c2, c3, c4, c5⟩ := h.at_ hj
  have hmod := pv_mod hk
  have hn0 : ¬ n = 0 := by omega
  rw [sd_of hx]
  clear hx h
  generalize pv n k = j at *
  have ob : b < w.heap.size + 1 := by omega
  go_enter Try.func75, Try.ntmps75
  go_wp2
  refine bodyPost_ret (v := .agg #[.int .i64 s.x1, .int .i64 s.y1, .int .i64 s.x2, .int .i64 s.y2, .int .i64 s.len, .int .i64 s.dir]) (by simp [results, Try.results75, go_sem]) rfl ⟨(by repeat (first | with_reducible exact Below.refl _ _ | with_reducible assumption | with_reducible refine Below.drew ?_ | with_reducible refine Below.drewN ?_ _ | with_reducible refine Below.alloc2 ?_ _ | with_reducible refine Below.alloc ?_ (by first | omega | (simp <;> omega)) _ | with_reducible refine Below.setCell ?_ (by first | omega | (simp <;> omega)) _ | with_reducible refine Below.step2 (by with_reducible assumption) ?_ | with_reducible refine Below.step (by with_reducible assumption) ?_ (by first | omega | (simp <;> omega)))), rfl⟩

theorem field_dir (a b c d e f : Int) (w : World) : (Instr.field 59 (.agg #[.int .i64 a, .int .i64 b, .int .i64 c, .int .i64 d, .int .i64 e, .int .i64 f]) 3).run Try.prog w = .ok (.int .i64 f) w := by kernel_rfl

/-- Side k breaks the turns. -/
def badS (ss : List Side) (k : Nat) : Bool := (sd ss k).dir == -1 || (sd ss k).dir.tmod 2 == (sd ss (pv ss.length k)).dir.tmod 2
def altS (ss : List Side) : Bool := (List.range ss.length).all fun k => !badS ss k
theorem altS_false {ss : List Side} {k : Nat} (hk : k < ss.length) (h : badS ss k = true) : altS ss = false := by
  unfold altS
  rw [List.all_eq_false]
  exact ⟨k, by simpa using hk, by simp [h]⟩

set_option maxRecDepth 100000 in
set_option maxHeartbeats 2000000 in
theorem alternate_any (A : Option Addr) (n c : Nat) (ss : List Side) (w : World) (h : Walls w w.heap.size A n c ss) (hn : n ≤ 1099511627776) :
    Calls Try.prog 60 #[.slice A n c] w fun e w' => Below w.heap.size w w' ∧ e = .returned (.bool (altS ss)) := by
  have hcap := h.cap
  have hmax := h.max
  have HLEN := Lib.hid h.len
  have H : Hid (∀ w', Below w.heap.size w w' → Walls w' w'.heap.size A n c ss) := fun w' hb => h.below hb (Nat.le_refl _) hb.size
  have hfd := field_dir
  clear h
  go_enter Try.func60, Try.ntmps60
  go_wp2
  go_loopw [7] (fun i wr => ∃ k : Nat, k ≤ n ∧ i = .int .i64 k ∧ Hid (∀ j, j < k → badS ss j = false) ∧ Below w.heap.size w wr) (fun i _ => n - (intOf i).toNat)
  case atStart => exact ⟨0, Nat.zero_le _, rfl, fun j hj => absurd hj (by omega), Below.refl _ _⟩
  case round =>
    obtain ⟨k, hk, rfl, hall, hb⟩ := hrel
    by_cases hlt : k < n
    · have hsz := hb.size
      obtain ⟨b, o, s, rfl, hbb, hx, c0, c1, c2, c3, c4, c5⟩ := (H.out _ hb).at_ hlt
      have HB := Lib.hid hb
      have HX := Lib.hid (sd_of hx)
      clear hb hx
      by_cases hd : s.dir = -1
      · have hd2 : (s.dir == -1) = true := by simpa using hd
        have hbad : Hid (altS ss = false) := Lib.hid (altS_false (by rw [HLEN.out]; exact hlt) (by unfold badS; rw [HX.out, hd2]; rfl))
        clear hd
        go_wp2
        go_quiet (fail)
        go_wp2
        go_ret
        have hb := HB.out
        exact ⟨(by repeat (first | with_reducible exact Below.refl _ _ | with_reducible assumption | with_reducible refine Below.drew ?_ | with_reducible refine Below.drewN ?_ _ | with_reducible refine Below.alloc2 ?_ _ | with_reducible refine Below.alloc ?_ (by first | omega | (simp <;> omega)) _ | with_reducible refine Below.setCell ?_ (by first | omega | (simp <;> omega)) _ | with_reducible refine Below.step2 (by with_reducible assumption) ?_ | with_reducible refine Below.step (by with_reducible assumption) ?_ (by first | omega | (simp <;> omega)))), ret_bool hbad.out.symm⟩
      · have hd2 : (s.dir == -1) = false := by simpa using hd
        clear hd
        have HP : Hid (badS ss k = (s.dir.tmod 2 == (sd ss (pv n k)).dir.tmod 2)) := Lib.hid (by unfold badS; rw [HX.out, hd2, HLEN.out]; rfl)
        rcases hp : (s.dir.tmod 2 == (sd ss (pv n k)).dir.tmod 2)
        all_goals
          have HQ := Lib.hid hp
          have q5 : (wr.alloc (.cells #[.int .i64 s.x1, .int .i64 s.y1, .int .i64 s.x2, .int .i64 s.y2, .int .i64 s.len, .int .i64 s.dir] 59)).cell? ⟨wr.heap.size, 5, none⟩ = some (.int .i64 s.dir) := by simp
          go_wp2
          go_region_held3 (fun w' => w'.cell? ⟨wr.heap.size, 5, none⟩ = some (.int .i64 s.dir)) (go_keep)
            (first
              | (go_at_call 75; refine (before_any (some ⟨b, o, none⟩) n c k ss _ (H.out _ (by have hb := HB.out; exact (by repeat (first | with_reducible exact Below.refl _ _ | with_reducible assumption | with_reducible refine Below.drew ?_ | with_reducible refine Below.drewN ?_ _ | with_reducible refine Below.alloc2 ?_ _ | with_reducible refine Below.alloc ?_ (by first | omega | (simp <;> omega)) _ | with_reducible refine Below.setCell ?_ (by first | omega | (simp <;> omega)) _ | with_reducible refine Below.step2 (by with_reducible assumption) ?_ | with_reducible refine Below.step (by with_reducible assumption) ?_ (by first | omega | (simp <;> omega)))))) hlt hn).mono ?_; rintro e wd ⟨hbd, rfl⟩; obtain ⟨hcd, hfd⟩ := bcell hbd; have hzd := hbd.size; simp at hzd; have q6 := (hcd wr.heap.size 5 (by simp)).trans q5))
          go_wp2
        · go_roundw
          case rel =>
            have hb := HB.out
            refine ⟨k + 1, by omega, by go_num, Lib.hid fun j hj => ?_, (by repeat (first | with_reducible exact Below.refl _ _ | with_reducible assumption | with_reducible refine Below.drew ?_ | with_reducible refine Below.drewN ?_ _ | with_reducible refine Below.alloc2 ?_ _ | with_reducible refine Below.alloc ?_ (by first | omega | (simp <;> omega)) _ | with_reducible refine Below.setCell ?_ (by first | omega | (simp <;> omega)) _ | with_reducible refine Below.step2 (by with_reducible assumption) ?_ | with_reducible refine Below.step (by with_reducible assumption) ?_ (by first | omega | (simp <;> omega))))⟩
            rcases Nat.lt_or_ge j k with h | h
            · exact hall.out j h
            · have e : j = k := by omega
              rw [e, HP.out]
              exact HQ.out
          case measure => simp [intOf]; omega
        · go_ret
          have hb := HB.out
          exact ⟨(by repeat (first | with_reducible exact Below.refl _ _ | with_reducible assumption | with_reducible refine Below.drew ?_ | with_reducible refine Below.drewN ?_ _ | with_reducible refine Below.alloc2 ?_ _ | with_reducible refine Below.alloc ?_ (by first | omega | (simp <;> omega)) _ | with_reducible refine Below.setCell ?_ (by first | omega | (simp <;> omega)) _ | with_reducible refine Below.step2 (by with_reducible assumption) ?_ | with_reducible refine Below.step (by with_reducible assumption) ?_ (by first | omega | (simp <;> omega)))), ret_bool (altS_false (by rw [HLEN.out]; exact hlt) (by rw [HP.out]; exact HQ.out)).symm⟩
    · have e : k = n := by omega
      have HB := Lib.hid hb
      have HE := Lib.hid e
      clear hb e
      go_wp2
      go_ret
      refine ⟨HB.out, ret_bool ?_⟩
      have h1 : altS ss = true := by
        unfold altS
        rw [List.all_eq_true]
        intro j hj
        rw [List.mem_range, HLEN.out, ← HE.out] at hj
        rw [hall.out j hj]
        rfl
      exact h1.symm

end Go.Proofs.Ytbfbjpnmgcpjlaa
