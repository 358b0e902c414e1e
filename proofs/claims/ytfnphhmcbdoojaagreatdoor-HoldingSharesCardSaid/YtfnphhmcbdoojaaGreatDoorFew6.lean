/- Chapter 6, walks: Few; sums of shares. -/
import Derived.Test.YtfnphhmcbdoojaaGreatDoorShares6
import Derived.Test.YtfnphhmcbdoojaaGreatDoorAwake6
namespace Go.Proofs.YtfnphhmcbdoojaaGreatDoor
open Go.RowKit

theorem gErr_zero {b1 b2 b3 b4 b5 b6 b7 : Bool} (h : gErr b1 b2 b3 b4 b5 b6 b7 = 0) : b1 = true ∧ b2 = true ∧ b3 = true ∧ b4 = true ∧ b5 = true ∧ b6 = true ∧ b7 = true := by
  cases b1 <;> cases b2 <;> cases b3 <;> cases b4 <;> cases b5 <;> cases b6 <;> cases b7 <;> first | exact ⟨rfl, rfl, rfl, rfl, rfl, rfl, rfl⟩ | (exfalso; revert h; decide)
theorem gridErr_sizes {f : Int} {a lv : List Int} (h : gridErr f a lv = 0) : 1 ≤ a.length ∧ a.length ≤ 60 ∧ 1 ≤ lv.length ∧ lv.length ≤ 30 := by
  obtain ⟨-, h2, h3, -⟩ := gErr_zero h
  simp only [inR, decide_eq_true_eq] at h2 h3
  omega

theorem windErr_zero {G TE : Int} {bl bw bk : Bool} (h : windErr G TE bl bw bk = 0) : G = 0 ∧ TE = 0 ∧ bl = true ∧ bw = true ∧ bk = true := by
  unfold windErr at h
  by_cases hg : G = 0
  · by_cases ht : TE = 0
    · refine ⟨hg, ht, ?_⟩
      rw [if_neg (by simp [hg]), if_neg (by simp [ht])] at h
      cases bl <;> cases bw <;> cases bk <;> first | exact ⟨rfl, rfl, rfl⟩ | (exfalso; revert h; decide)
    · rw [if_neg (by simp [hg]), if_pos ht] at h
      exact absurd h ht
  · rw [if_pos hg] at h
    exact absurd h hg
theorem tiesErr_zero {n m : Nat} {l : List (Int × Int)} (h : tiesErr n m l = 0) : l.any (fun t => !tieIn n m t) = false := by
  unfold tiesErr at h
  split at h
  · cases h
  · split at h
    · cases h
    · rename_i hx
      simpa using hx


def fewB (n m : Nat) (G : Int) : Bool := decide (n ≤ 100) && (decide (m ≤ 100) && ((decide (n ≤ 6) && decide (m ≤ 6)) || decide (G ≠ 0)))
set_option maxHeartbeats 4000000 in
theorem few_any (f : Int) (A A2 : Option Addr) (n c m c2 : Nat) (G : Int) (w : World) (c2' : ∀ w', Below w.heap.size w w' → Calls Tryz.prog 14 #[.agg #[.int .i64 f, .slice A n c, .slice A2 m c2]] w' fun e w'' => Below w'.heap.size w' w'' ∧ e = .returned (.int .i64 G)) :
    Calls Tryz.prog 21 #[.agg #[.int .i64 f, .slice A n c, .slice A2 m c2]] w fun e w' => Below w.heap.size w w' ∧ e = .returned (.bool (fewB n m G)) := by
  have C2 := Lib.hid c2'
  clear c2'
  unfold fewB
  by_cases h1 : n ≤ 100
  · rw [decide_eq_true h1]
    have i1 : ¬ (100 : Int) < (n : Int) := by omega
    by_cases h2 : m ≤ 100
    · rw [decide_eq_true h2]
      have i2 : ¬ (100 : Int) < (m : Int) := by omega
      clear h1 h2
      by_cases h3 : n ≤ 6
      · rw [decide_eq_true h3]
        have i3 : (n : Int) ≤ 6 := by omega
        clear h3
        by_cases h4 : m ≤ 6
        · rw [decide_eq_true h4]
          have i4 : (m : Int) ≤ 6 := by omega
          clear h4
          (
              go_enter Tryz.func21, Tryz.ntmps21
              go_wp2_with (go_at_call 14; with_reducible refine (C2.out _ ?_).mono ?_; (focus (exact (by repeat (first | with_reducible exact Below.refl _ _ | with_reducible assumption | with_reducible refine Below.drew ?_ | with_reducible refine Below.drewN ?_ _ | with_reducible refine Below.alloc2 ?_ _ | with_reducible refine Below.alloc ?_ (by first | omega | (simp <;> omega)) _ | with_reducible refine Below.setCell ?_ (by first | omega | (simp <;> omega)) _ | with_reducible refine Below.step2 (by with_reducible assumption) ?_ | with_reducible refine Below.step (by with_reducible assumption) ?_ (by first | omega | (simp <;> omega)))))); rintro e w1 ⟨hb1, rfl⟩)
              go_ret
              exact ⟨(by repeat (first | with_reducible exact Below.refl _ _ | with_reducible assumption | with_reducible refine Below.drew ?_ | with_reducible refine Below.drewN ?_ _ | with_reducible refine Below.alloc2 ?_ _ | with_reducible refine Below.alloc ?_ (by first | omega | (simp <;> omega)) _ | with_reducible refine Below.setCell ?_ (by first | omega | (simp <;> omega)) _ | with_reducible refine Below.step2 (by with_reducible assumption) ?_ | with_reducible refine Below.step (by with_reducible assumption) ?_ (by first | omega | (simp <;> omega)))), rfl⟩)
        · rw [decide_eq_false h4]
          have i4 : ¬ (m : Int) ≤ 6 := by omega
          clear h4
          by_cases hg : G = 0
          · subst hg
            (
                go_enter Tryz.func21, Tryz.ntmps21
                go_wp2_with (go_at_call 14; with_reducible refine (C2.out _ ?_).mono ?_; (focus (exact (by repeat (first | with_reducible exact Below.refl _ _ | with_reducible assumption | with_reducible refine Below.drew ?_ | with_reducible refine Below.drewN ?_ _ | with_reducible refine Below.alloc2 ?_ _ | with_reducible refine Below.alloc ?_ (by first | omega | (simp <;> omega)) _ | with_reducible refine Below.setCell ?_ (by first | omega | (simp <;> omega)) _ | with_reducible refine Below.step2 (by with_reducible assumption) ?_ | with_reducible refine Below.step (by with_reducible assumption) ?_ (by first | omega | (simp <;> omega)))))); rintro e w1 ⟨hb1, rfl⟩)
                go_ret
                exact ⟨(by repeat (first | with_reducible exact Below.refl _ _ | with_reducible assumption | with_reducible refine Below.drew ?_ | with_reducible refine Below.drewN ?_ _ | with_reducible refine Below.alloc2 ?_ _ | with_reducible refine Below.alloc ?_ (by first | omega | (simp <;> omega)) _ | with_reducible refine Below.setCell ?_ (by first | omega | (simp <;> omega)) _ | with_reducible refine Below.step2 (by with_reducible assumption) ?_ | with_reducible refine Below.step (by with_reducible assumption) ?_ (by first | omega | (simp <;> omega)))), rfl⟩)
          · have hgb : (G != 0) = true := by simpa using hg
            rw [decide_eq_true hg]
            clear hg
            (
                go_enter Tryz.func21, Tryz.ntmps21
                go_wp2_with (go_at_call 14; with_reducible refine (C2.out _ ?_).mono ?_; (focus (exact (by repeat (first | with_reducible exact Below.refl _ _ | with_reducible assumption | with_reducible refine Below.drew ?_ | with_reducible refine Below.drewN ?_ _ | with_reducible refine Below.alloc2 ?_ _ | with_reducible refine Below.alloc ?_ (by first | omega | (simp <;> omega)) _ | with_reducible refine Below.setCell ?_ (by first | omega | (simp <;> omega)) _ | with_reducible refine Below.step2 (by with_reducible assumption) ?_ | with_reducible refine Below.step (by with_reducible assumption) ?_ (by first | omega | (simp <;> omega)))))); rintro e w1 ⟨hb1, rfl⟩)
                go_ret
                exact ⟨(by repeat (first | with_reducible exact Below.refl _ _ | with_reducible assumption | with_reducible refine Below.drew ?_ | with_reducible refine Below.drewN ?_ _ | with_reducible refine Below.alloc2 ?_ _ | with_reducible refine Below.alloc ?_ (by first | omega | (simp <;> omega)) _ | with_reducible refine Below.setCell ?_ (by first | omega | (simp <;> omega)) _ | with_reducible refine Below.step2 (by with_reducible assumption) ?_ | with_reducible refine Below.step (by with_reducible assumption) ?_ (by first | omega | (simp <;> omega)))), rfl⟩)
      · rw [decide_eq_false h3]
        have i3 : ¬ (n : Int) ≤ 6 := by omega
        clear h3
        by_cases hg : G = 0
        · subst hg
          (
              go_enter Tryz.func21, Tryz.ntmps21
              go_wp2_with (go_at_call 14; with_reducible refine (C2.out _ ?_).mono ?_; (focus (exact (by repeat (first | with_reducible exact Below.refl _ _ | with_reducible assumption | with_reducible refine Below.drew ?_ | with_reducible refine Below.drewN ?_ _ | with_reducible refine Below.alloc2 ?_ _ | with_reducible refine Below.alloc ?_ (by first | omega | (simp <;> omega)) _ | with_reducible refine Below.setCell ?_ (by first | omega | (simp <;> omega)) _ | with_reducible refine Below.step2 (by with_reducible assumption) ?_ | with_reducible refine Below.step (by with_reducible assumption) ?_ (by first | omega | (simp <;> omega)))))); rintro e w1 ⟨hb1, rfl⟩)
              go_ret
              exact ⟨(by repeat (first | with_reducible exact Below.refl _ _ | with_reducible assumption | with_reducible refine Below.drew ?_ | with_reducible refine Below.drewN ?_ _ | with_reducible refine Below.alloc2 ?_ _ | with_reducible refine Below.alloc ?_ (by first | omega | (simp <;> omega)) _ | with_reducible refine Below.setCell ?_ (by first | omega | (simp <;> omega)) _ | with_reducible refine Below.step2 (by with_reducible assumption) ?_ | with_reducible refine Below.step (by with_reducible assumption) ?_ (by first | omega | (simp <;> omega)))), rfl⟩)
        · have hgb : (G != 0) = true := by simpa using hg
          rw [decide_eq_true hg]
          clear hg
          (
              go_enter Tryz.func21, Tryz.ntmps21
              go_wp2_with (go_at_call 14; with_reducible refine (C2.out _ ?_).mono ?_; (focus (exact (by repeat (first | with_reducible exact Below.refl _ _ | with_reducible assumption | with_reducible refine Below.drew ?_ | with_reducible refine Below.drewN ?_ _ | with_reducible refine Below.alloc2 ?_ _ | with_reducible refine Below.alloc ?_ (by first | omega | (simp <;> omega)) _ | with_reducible refine Below.setCell ?_ (by first | omega | (simp <;> omega)) _ | with_reducible refine Below.step2 (by with_reducible assumption) ?_ | with_reducible refine Below.step (by with_reducible assumption) ?_ (by first | omega | (simp <;> omega)))))); rintro e w1 ⟨hb1, rfl⟩)
              go_ret
              exact ⟨(by repeat (first | with_reducible exact Below.refl _ _ | with_reducible assumption | with_reducible refine Below.drew ?_ | with_reducible refine Below.drewN ?_ _ | with_reducible refine Below.alloc2 ?_ _ | with_reducible refine Below.alloc ?_ (by first | omega | (simp <;> omega)) _ | with_reducible refine Below.setCell ?_ (by first | omega | (simp <;> omega)) _ | with_reducible refine Below.step2 (by with_reducible assumption) ?_ | with_reducible refine Below.step (by with_reducible assumption) ?_ (by first | omega | (simp <;> omega)))), rfl⟩)
    · rw [decide_eq_false h2]
      have i2 : (100 : Int) < (m : Int) := by omega
      clear h1 h2
      (
          go_enter Tryz.func21, Tryz.ntmps21
          go_wp2_with (go_at_call 14; with_reducible refine (C2.out _ ?_).mono ?_; (focus (exact (by repeat (first | with_reducible exact Below.refl _ _ | with_reducible assumption | with_reducible refine Below.drew ?_ | with_reducible refine Below.drewN ?_ _ | with_reducible refine Below.alloc2 ?_ _ | with_reducible refine Below.alloc ?_ (by first | omega | (simp <;> omega)) _ | with_reducible refine Below.setCell ?_ (by first | omega | (simp <;> omega)) _ | with_reducible refine Below.step2 (by with_reducible assumption) ?_ | with_reducible refine Below.step (by with_reducible assumption) ?_ (by first | omega | (simp <;> omega)))))); rintro e w1 ⟨hb1, rfl⟩)
          go_ret
          exact ⟨(by repeat (first | with_reducible exact Below.refl _ _ | with_reducible assumption | with_reducible refine Below.drew ?_ | with_reducible refine Below.drewN ?_ _ | with_reducible refine Below.alloc2 ?_ _ | with_reducible refine Below.alloc ?_ (by first | omega | (simp <;> omega)) _ | with_reducible refine Below.setCell ?_ (by first | omega | (simp <;> omega)) _ | with_reducible refine Below.step2 (by with_reducible assumption) ?_ | with_reducible refine Below.step (by with_reducible assumption) ?_ (by first | omega | (simp <;> omega)))), rfl⟩)
  · rw [decide_eq_false h1]
    have i1 : (100 : Int) < (n : Int) := by omega
    clear h1
    (
        go_enter Tryz.func21, Tryz.ntmps21
        go_wp2_with (go_at_call 14; with_reducible refine (C2.out _ ?_).mono ?_; (focus (exact (by repeat (first | with_reducible exact Below.refl _ _ | with_reducible assumption | with_reducible refine Below.drew ?_ | with_reducible refine Below.drewN ?_ _ | with_reducible refine Below.alloc2 ?_ _ | with_reducible refine Below.alloc ?_ (by first | omega | (simp <;> omega)) _ | with_reducible refine Below.setCell ?_ (by first | omega | (simp <;> omega)) _ | with_reducible refine Below.step2 (by with_reducible assumption) ?_ | with_reducible refine Below.step (by with_reducible assumption) ?_ (by first | omega | (simp <;> omega)))))); rintro e w1 ⟨hb1, rfl⟩)
        go_ret
        exact ⟨(by repeat (first | with_reducible exact Below.refl _ _ | with_reducible assumption | with_reducible refine Below.drew ?_ | with_reducible refine Below.drewN ?_ _ | with_reducible refine Below.alloc2 ?_ _ | with_reducible refine Below.alloc ?_ (by first | omega | (simp <;> omega)) _ | with_reducible refine Below.setCell ?_ (by first | omega | (simp <;> omega)) _ | with_reducible refine Below.step2 (by with_reducible assumption) ?_ | with_reducible refine Below.step (by with_reducible assumption) ?_ (by first | omega | (simp <;> omega)))), rfl⟩)

theorem sum_set : ∀ (l : List Int) (r : Nat) (v : Int), r < l.length → (l.set r v).sum = l.sum - l.getD r 0 + v
  | [], r, v, h => by simp at h
  | x :: l, 0, v, _ => by simp; omega
  | x :: l, r + 1, v, h => by
    have := sum_set l r v (by simpa using h)
    simp only [List.set_cons_succ, List.sum_cons, this, List.getD_cons_succ]
    omega
theorem sum_take {l : List Int} {k : Nat} {x : Int} (h : l[k]? = some x) : (l.take (k + 1)).sum = (l.take k).sum + x := by
  obtain ⟨hk, rfl⟩ := List.getElem?_eq_some_iff.1 h
  rw [List.take_succ_eq_append_getElem hk, List.sum_append]
  simp
theorem sum_take_bd {B : Int} {l : List Int} (h : ∀ x ∈ l, 0 ≤ x ∧ x ≤ B) : ∀ k : Nat, k ≤ l.length → 0 ≤ (l.take k).sum ∧ (l.take k).sum ≤ (k : Int) * B
  | 0, _ => by simp
  | k + 1, hk => by
    have h1 := sum_take_bd h k (by omega)
    have hx : l[k]? = some l[k] := List.getElem?_eq_getElem (by omega)
    have h2 := h l[k] (by simp)
    rw [sum_take hx]
    have e : ((k + 1 : Nat) : Int) * B = (k : Int) * B + B := by rw [Int.natCast_add, Int.add_mul]; simp
    rw [e]
    omega
theorem sharesTo_sum {a lv wind : List Int} {l : List (Int × Int)} {m k0 : Nat} (hk : 1 ≤ l.length) (hk0 : l.length = k0) : ∀ q, q ≤ wind.length → (sharesTo a lv l m k0 wind q).sum = (wind.take q).sum
  | 0, _ => by simp [sharesTo]
  | q + 1, hq => by
    have ih := sharesTo_sum (a := a) (lv := lv) (wind := wind) (m := m) hk hk0 q (by omega)
    have hx : wind[q]? = some wind[q] := List.getElem?_eq_getElem (by omega)
    have hr := nearTo_lt (a := a) (lv := lv) (u := (((q / m : Nat) : Int), ((q % m : Nat) : Int))) hk l.length (Nat.le_refl _)
    simp only [sharesTo]
    rw [hk0] at hr
    generalize nearTo a lv l (((q / m : Nat) : Int), ((q % m : Nat) : Int)) k0 = r at *
    rw [sum_set _ _ _ (by rw [sharesTo_len]; exact hr), ih, sum_take hx, getD_of hx]
    omega

end Go.Proofs.YtfnphhmcbdoojaaGreatDoor
