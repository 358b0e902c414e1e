/- Chapter 9, walks: names of the reference; texts in lists. -/
import Derived.Test.YtmcefodfppdajaaName9
namespace Go.Proofs.Ytmcefodfppdajaa
open Go.RowKit

def okAt (s : ByteArray) (k : Nat) : Prop := chB (bt s k) = true ∧ (k = 0 → letB (bt s k) = true)
theorem okAt_all {s : ByteArray} (h1 : ¬ s.size < 1) (h2 : ¬ 12 < s.size) (h : ∀ k, k < s.size → okAt s k) : nameB s = true := nameB_ok h1 h2 ((h 0 (by omega)).2 rfl) fun k hk => (h k hk).1
set_option maxHeartbeats 8000000 in
theorem refName_any (s : ByteArray) (w : World) (hs : s.size ≤ 30) : Calls Try.prog 56 #[.string s] w fun e w' => w = w' ∧ e = .returned (.bool (nameB s)) := by
  by_cases h1 : s.size < 1
  · rw [nameB_short h1]
    go_enter Try.func56, Try.ntmps56
    go_wp2
    go_ret
    exact ⟨rfl, rfl⟩
  by_cases h2 : 12 < s.size
  · rw [nameB_long h2]
    go_enter Try.func56, Try.ntmps56
    go_wp2
    go_ret
    exact ⟨rfl, rfl⟩
  obtain ⟨R, hR⟩ : ∃ R, nameB s = R := ⟨_, rfl⟩
  have HR := Lib.hid hR
  rw [hR]
  clear hR
  go_enter Try.func56, Try.ntmps56
  go_wp2
  go_loop [3, 4, 5] (fun i _ _ => ∃ k : Nat, k ≤ s.size ∧ i = .int .i64 k ∧ Hid (∀ j, j < k → okAt s j)) (fun i _ _ => s.size - (intOf i).toNat)
  case atStart => exact ⟨0, Nat.zero_le _, rfl, Lib.hid (fun j hj => absurd hj (Nat.not_lt_zero _))⟩
  case round =>
    obtain ⟨k, hk, rfl, HA⟩ := hrel
    by_cases hlt : k < s.size
    · have hik := index_at s k hlt
      obtain ⟨c, hc⟩ : ∃ c, bt s k = c := ⟨_, rfl⟩
      rw [hc] at hik
      have HC := Lib.hid hc
      have hI : c < 45 ∨ c = 45 ∨ (45 < c ∧ c < 48) ∨ (48 ≤ c ∧ c ≤ 57) ∨ (57 < c ∧ c < 65) ∨ (65 ≤ c ∧ c ≤ 90) ∨ (90 < c ∧ c < 97) ∨ (97 ≤ c ∧ c ≤ 122) ∨ 122 < c := by omega
      have HZ : Hid ((chB c = true ∧ (k = 0 → letB c = true)) → ∀ j, j < k + 1 → okAt s j) := Lib.hid fun h j hj => by
        rcases Nat.lt_or_ge j k with h2 | h2
        · exact HA.out j h2
        · obtain rfl : j = k := by omega
          unfold okAt
          rw [hc]
          exact h
      have HN : Hid (chB c = false → R = false) := Lib.hid fun h => by rw [← HR.out]; exact nameB_bad hlt (by rw [hc]; exact h)
      have HM : Hid (k = 0 → letB c = false → R = false) := Lib.hid fun h0 h => by rw [← HR.out]; subst h0; exact nameB_first (by rw [hc]; exact h)
      clear hc
      by_cases hk0 : k = 0
      · have HM0 := Lib.hid (HM.out hk0)
        have HZ0 : Hid (letB c = true → ∀ j, j < 1 → okAt s j) := Lib.hid fun h => by
          have := HZ.out ⟨by simp only [chB, h, Bool.true_or], fun _ => h⟩
          rw [hk0] at this
          exact this
        subst hk0
        have hi0 : ∀ W : World, (Instr.index 9 (.string s) (.int .i64 0)).run Try.prog W = .ok (.int .u8 c) W := hik
        clear hik HM HZ HN HA
        have hJ : c < 65 ∨ (65 ≤ c ∧ c ≤ 90) ∨ (90 < c ∧ c < 97) ∨ (97 ≤ c ∧ c ≤ 122) ∨ 122 < c := by omega
        clear hI
        rcases hJ with h | h | h | h | h
        · (
                  go_wp2
                  go_ret
                  exact ⟨rfl, ret_bool (HM0.out (by simp only [letB, decide_eq_false_iff_not]; omega)).symm⟩
                  all_goals (exfalso; rename_i hq; simp at hq; omega))
        · have h45 : (c != 45) = true := by simp; omega
          (
                  go_wp2
                  go_round
                  case rel => exact ⟨1, by omega, by go_num, Lib.hid (HZ0.out (by simp only [letB, decide_eq_true_eq]; omega))⟩
                  case measure => simp [intOf]; omega)
        · (
                  go_wp2
                  go_ret
                  exact ⟨rfl, ret_bool (HM0.out (by simp only [letB, decide_eq_false_iff_not]; omega)).symm⟩
                  all_goals (exfalso; rename_i hq; simp at hq; omega))
        · have h45 : (c != 45) = true := by simp; omega
          (
                  go_wp2
                  go_round
                  case rel => exact ⟨1, by omega, by go_num, Lib.hid (HZ0.out (by simp only [letB, decide_eq_true_eq]; omega))⟩
                  case measure => simp [intOf]; omega)
        · (
                  go_wp2
                  go_ret
                  exact ⟨rfl, ret_bool (HM0.out (by simp only [letB, decide_eq_false_iff_not]; omega)).symm⟩
                  all_goals (exfalso; rename_i hq; simp at hq; omega))
      · have hkb : ((k : Int) == 0) = false := by simpa using hk0
        clear HM
        rcases hI with h | h | h | h | h | h | h | h | h
        · have h45 : (c != 45) = true := by simp; omega
          (
                  go_wp2
                  go_ret
                  exact ⟨rfl, ret_bool (HN.out (by simp only [chB, letB, digB, Bool.or_eq_false_iff, decide_eq_false_iff_not]; omega)).symm⟩
                  all_goals (exfalso; rename_i hq; simp at hq; omega))
        · subst h
          (
                  go_wp2
                  go_round
                  case rel => exact ⟨k + 1, by omega, by go_num, Lib.hid (HZ.out ⟨by first | decide | (simp only [chB, letB, digB, Bool.or_eq_true, decide_eq_true_eq]; omega), fun h => absurd h hk0⟩)⟩
                  case measure => simp [intOf]; omega)
        · have h45 : (c != 45) = true := by simp; omega
          (
                  go_wp2
                  go_ret
                  exact ⟨rfl, ret_bool (HN.out (by simp only [chB, letB, digB, Bool.or_eq_false_iff, decide_eq_false_iff_not]; omega)).symm⟩
                  all_goals (exfalso; rename_i hq; simp at hq; omega))
        · have h45 : (c != 45) = true := by simp; omega
          (
                  go_wp2
                  go_round
                  case rel => exact ⟨k + 1, by omega, by go_num, Lib.hid (HZ.out ⟨by first | decide | (simp only [chB, letB, digB, Bool.or_eq_true, decide_eq_true_eq]; omega), fun h => absurd h hk0⟩)⟩
                  case measure => simp [intOf]; omega)
        · have h45 : (c != 45) = true := by simp; omega
          (
                  go_wp2
                  go_ret
                  exact ⟨rfl, ret_bool (HN.out (by simp only [chB, letB, digB, Bool.or_eq_false_iff, decide_eq_false_iff_not]; omega)).symm⟩
                  all_goals (exfalso; rename_i hq; simp at hq; omega))
        · have h45 : (c != 45) = true := by simp; omega
          (
                  go_wp2
                  go_round
                  case rel => exact ⟨k + 1, by omega, by go_num, Lib.hid (HZ.out ⟨by first | decide | (simp only [chB, letB, digB, Bool.or_eq_true, decide_eq_true_eq]; omega), fun h => absurd h hk0⟩)⟩
                  case measure => simp [intOf]; omega)
        · have h45 : (c != 45) = true := by simp; omega
          (
                  go_wp2
                  go_ret
                  exact ⟨rfl, ret_bool (HN.out (by simp only [chB, letB, digB, Bool.or_eq_false_iff, decide_eq_false_iff_not]; omega)).symm⟩
                  all_goals (exfalso; rename_i hq; simp at hq; omega))
        · have h45 : (c != 45) = true := by simp; omega
          (
                  go_wp2
                  go_round
                  case rel => exact ⟨k + 1, by omega, by go_num, Lib.hid (HZ.out ⟨by first | decide | (simp only [chB, letB, digB, Bool.or_eq_true, decide_eq_true_eq]; omega), fun h => absurd h hk0⟩)⟩
                  case measure => simp [intOf]; omega)
        · have h45 : (c != 45) = true := by simp; omega
          (
                  go_wp2
                  go_ret
                  exact ⟨rfl, ret_bool (HN.out (by simp only [chB, letB, digB, Bool.or_eq_false_iff, decide_eq_false_iff_not]; omega)).symm⟩
                  all_goals (exfalso; rename_i hq; simp at hq; omega))
    · go_wp2
      go_ret
      exact ⟨rfl, ret_bool (by rw [← HR.out]; exact (okAt_all h1 h2 (fun j hj => HA.out j (by omega))).symm)⟩

end Go.Proofs.Ytmcefodfppdajaa
