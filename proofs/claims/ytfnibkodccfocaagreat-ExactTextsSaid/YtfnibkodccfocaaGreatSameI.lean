/- Integers that are equal: SameInt; integers with few limbs: short. -/
import Derived.Test.YtfnibkodccfocaaGreatIntH
import Derived.Deep.RegionHeld3
import Derived.Deep.QuietTactic
import Derived.BigQuiet
namespace Go.Proofs.YtfnibkodccfocaaGreat
open Go.RowKit

theorem ret_boolI {a b : Bool} (h : a = b) : Ending.returned (.bool a) = .returned (.bool b) := by rw [h]
set_option maxHeartbeats 2000000 in
theorem sameInt_any (s : Bool) (A1 A2 : Option Addr) (n c1 c2 : Nat) (l : List Nat) (w : World) (h1 : Lim w w.heap.size A1 n c1 l) (h2 : Lim w w.heap.size A2 n c2 l) :
    Calls Tryz.prog 11 #[.agg #[.bool s, .slice A1 n c1], .agg #[.bool s, .slice A2 n c2]] w fun e w' => Below w.heap.size w w' ∧ e = .returned (.bool true) := by
  have hcap := h1.cap
  have hmax := h1.max
  have hcap2 := h2.cap
  have hmax2 := h2.max
  have H1 : Hid (∀ w', Below w.heap.size w w' → Lim w' w.heap.size A1 n c1 l) := fun w' hb => h1.below hb (Nat.le_refl _) (Nat.le_refl _)
  have H2 : Hid (∀ w', Below w.heap.size w w' → Lim w' w.heap.size A2 n c2 l) := fun w' hb => h2.below hb (Nat.le_refl _) (Nat.le_refl _)
  clear h1 h2
  go_enter Tryz.func11, Tryz.ntmps11
  go_wp2
  go_loopw [5] (fun i wr => ∃ k : Nat, k ≤ n ∧ i = .int .i64 k ∧ Bk wr w.heap.size 24 #[.bool s, .slice A1 n c1] ∧ Bk wr (w.heap.size + 1) 24 #[.bool s, .slice A2 n c2] ∧ Below w.heap.size w wr) (fun i _ => n - (intOf i).toNat)
  case atStart => exact ⟨0, Nat.zero_le _, rfl, ((Bk.alloc_ w _ _).alloc _), alloc2_bk w _ _ _, alloc2_below w _ _⟩
  case round =>
    obtain ⟨k, hk, rfl, k1, k2, hb⟩ := hrel
    have HB := Lib.hid hb
    have HK1 := Lib.hid k1
    have HK2 := Lib.hid k2
    have ow := hb.size
    have og1 := k1.lt
    have og2 := k2.lt
    have e0 : wr.cell? ⟨w.heap.size, 0, none⟩ = some (.bool s) := by simpa using k1.cell 0
    have e1 : wr.cell? ⟨w.heap.size, 1, none⟩ = some (.slice A1 n c1) := by simpa using k1.cell 1
    have e2 : wr.cell? ⟨w.heap.size + 1, 0, none⟩ = some (.bool s) := by simpa using k2.cell 0
    have e3 : wr.cell? ⟨w.heap.size + 1, 1, none⟩ = some (.slice A2 n c2) := by simpa using k2.cell 1
    by_cases hlt : k < n
    · obtain ⟨b, o, x, rfl, hbb, hx, hx32, c0⟩ := (H1.out _ hb).at_ hlt
      obtain ⟨b2, o2, x2, rfl, hbb2, hx2, -, d0⟩ := (H2.out _ hb).at_ hlt
      rw [hx] at hx2
      obtain rfl : x = x2 := by simpa using hx2
      have ob1 : b < wr.heap.size := by omega
      have ob2 : b2 < wr.heap.size := by omega
      have z1 : (0 : Int) ≤ (k : Int) := by omega
      have z2 : (k : Int) < (n : Int) := by omega
      clear hb hx hx2 k1 k2 hx32
      go_wp2
      go_quiet (fail)
      go_wp2
      go_roundw
      case rel =>
        exact ⟨k + 1, by omega, by go_num, HK1.out.drewN _, HK2.out.drewN _, Below.drewN HB.out _⟩
      case measure => simp [intOf]; omega
    · clear hb k1 k2
      go_wp2
      go_ret
      exact ⟨HB.out, rfl⟩
theorem sg_eq {s1 s2 : Bool} {a b : Nat} (h : sg s1 a = sg s2 b) (h1 : s1 = true → 0 < a) (h2 : s2 = true → 0 < b) : s1 = s2 ∧ a = b := by
  cases s1 <;> cases s2 <;> simp [sg] at h h1 h2 ⊢ <;> omega
theorem sameH {w w1 w2 : World} {s1 s2 : Bool} {A1 A2 : Option Addr} {n1 c1 n2 c2 : Nat} {x y : Int} {K1 K2 : Nat} (h1 : IntH w1 s1 A1 n1 c1 x K1 true) (h2 : IntH w2 s2 A2 n2 c2 y K2 true) (b1 : Below w1.heap.size w1 w) (b2 : Below w2.heap.size w2 w) (hxy : x = y) :
    Calls Tryz.prog 11 #[.agg #[.bool s1, .slice A1 n1 c1], .agg #[.bool s2, .slice A2 n2 c2]] w fun e w' => Below w.heap.size w w' ∧ e = .returned (.bool true) := by
  obtain ⟨l1, g1, rfl, q1⟩ := h1.lim
  obtain ⟨l2, g2, rfl, q2⟩ := h2.lim
  obtain ⟨m1, p1⟩ := q1 rfl
  obtain ⟨m2, p2⟩ := q2 rfl
  have L1 := g1 w b1
  have L2 := g2 w b2
  have pos : ∀ {n : Nat} {l : List Nat}, l.length = n → Norm l → 0 < n → 0 < val l := fun hl hm hn => norm_val_pos hm (fun e => by subst e; simp at hl; omega)
  obtain ⟨rfl, hv⟩ := sg_eq hxy (fun h => pos L1.len m1 (p1 h)) (fun h => pos L2.len m2 (p2 h))
  obtain rfl := norm_inj L1.bd L2.bd m1 m2 hv
  obtain rfl : n1 = n2 := by rw [← L1.len, ← L2.len]
  exact sameInt_any s1 A1 A2 n1 c1 c2 l1 w L1 L2

set_option maxHeartbeats 2000000 in
theorem short_any (s1 s2 s3 : Bool) (A1 A2 A3 : Option Addr) (n1 c1 n2 c2 n3 c3 g : Nat) (w : World) (h : Bk w g 24 #[.bool s1, .slice A1 n1 c1, .bool s2, .slice A2 n2 c2, .bool s3, .slice A3 n3 c3]) :
    Calls Tryz.prog 7 #[.slice (some ⟨g, 0, none⟩) 3 3] w fun e w' => w = w' ∧ e = .returned (.bool (decide (n1 ≤ 5) && (decide (n2 ≤ 5) && decide (n3 ≤ 5)))) := by
  have og := h.lt
  have e1 : w.cell? ⟨g, 1, none⟩ = some (.slice A1 n1 c1) := by simpa using h.cell 1
  have e2 : w.cell? ⟨g, 3, none⟩ = some (.slice A2 n2 c2) := by simpa using h.cell 3
  have e3 : w.cell? ⟨g, 5, none⟩ = some (.slice A3 n3 c3) := by simpa using h.cell 5
  clear h
  by_cases q1 : n1 ≤ 5
  · have r1 : ¬ (5 : Int) < (n1 : Int) := by omega
    by_cases q2 : n2 ≤ 5
    · have r2 : ¬ (5 : Int) < (n2 : Int) := by omega
      by_cases q3 : n3 ≤ 5
      · have r3 : ¬ (5 : Int) < (n3 : Int) := by omega
        (
            go_enter Tryz.func7, Tryz.ntmps7
            go_wp2
            refine wp_loop_rounds 4 ?_
            rw [rounds_succ]
            go_wp2
            all_goals (try (rw [rounds_succ]; go_wp2))
            all_goals (try (rw [rounds_succ]; go_wp2))
            all_goals (try (rw [rounds_succ]; go_wp2))
            go_ret
            exact ⟨rfl, ret_boolI (by simp [*] <;> omega)⟩)
      · have r3 : (5 : Int) < (n3 : Int) := by omega
        (
            go_enter Tryz.func7, Tryz.ntmps7
            go_wp2
            refine wp_loop_rounds 4 ?_
            rw [rounds_succ]
            go_wp2
            all_goals (try (rw [rounds_succ]; go_wp2))
            all_goals (try (rw [rounds_succ]; go_wp2))
            all_goals (try (rw [rounds_succ]; go_wp2))
            go_ret
            exact ⟨rfl, ret_boolI (by simp [*] <;> omega)⟩)
    · have r2 : (5 : Int) < (n2 : Int) := by omega
      (
          go_enter Tryz.func7, Tryz.ntmps7
          go_wp2
          refine wp_loop_rounds 4 ?_
          rw [rounds_succ]
          go_wp2
          all_goals (try (rw [rounds_succ]; go_wp2))
          all_goals (try (rw [rounds_succ]; go_wp2))
          all_goals (try (rw [rounds_succ]; go_wp2))
          go_ret
          exact ⟨rfl, ret_boolI (by simp [*] <;> omega)⟩)
  · have r1 : (5 : Int) < (n1 : Int) := by omega
    (
        go_enter Tryz.func7, Tryz.ntmps7
        go_wp2
        refine wp_loop_rounds 4 ?_
        rw [rounds_succ]
        go_wp2
        all_goals (try (rw [rounds_succ]; go_wp2))
        all_goals (try (rw [rounds_succ]; go_wp2))
        all_goals (try (rw [rounds_succ]; go_wp2))
        go_ret
        exact ⟨rfl, ret_boolI (by simp [*] <;> omega)⟩)

end Go.Proofs.YtfnibkodccfocaaGreat
