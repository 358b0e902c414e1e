/- Chapter 9, walks: names, on both sides. -/
import Derived.Test.YtmcefodfppdajaaBase9
namespace Go.Proofs.Ytmcefodfppdajaa
open Go.RowKit

/-- Byte k of a text. -/
def bt (s : ByteArray) (k : Nat) : Int := ((s.data.getD k 0).toNat : Int)
theorem bt_bd (s : ByteArray) (k : Nat) : 0 ≤ bt s k ∧ bt s k ≤ 255 := by
  have := (s.data.getD k 0).toNat_lt
  unfold bt
  omega
theorem index_at (s : ByteArray) (k : Nat) (hk : k < s.size) (W : World) : (Instr.index 9 (.string s) (.int .i64 (k : Int))).run Try.prog W = .ok (.int .u8 (bt s k)) W := by
  rw [run_index_string W 9 s .i64 k Try.underlying9, dif_pos ⟨by omega, by omega⟩]
  have e : s[(k : Int).toNat]'(by omega) = s.data.getD k 0 := by
    have h2 : k < s.data.size := hk
    simp only [Int.toNat_natCast, Array.getD_eq_getD_getElem?, Array.getElem?_eq_getElem h2, Option.getD_some]
    rfl
  simp only [bt, ← e]
def letB (c : Int) : Bool := decide ((97 ≤ c ∧ c ≤ 122) ∨ (65 ≤ c ∧ c ≤ 90))
def digB (c : Int) : Bool := decide (48 ≤ c ∧ c ≤ 57)
def chB (c : Int) : Bool := letB c || (digB c || decide (c = 45))
def nameB (s : ByteArray) : Bool := decide (1 ≤ s.size ∧ s.size ≤ 12 ∧ letB (bt s 0) = true ∧ ∀ k, k < s.size → chB (bt s k) = true)
theorem nameB_short {s : ByteArray} (h : s.size < 1) : nameB s = false := decide_eq_false fun ⟨h1, _⟩ => by omega
theorem nameB_long {s : ByteArray} (h : 12 < s.size) : nameB s = false := decide_eq_false fun ⟨_, h1, _⟩ => by omega
theorem nameB_first {s : ByteArray} (h : letB (bt s 0) = false) : nameB s = false := decide_eq_false fun ⟨_, _, h1, _⟩ => by rw [h] at h1; cases h1
theorem nameB_bad {s : ByteArray} {k : Nat} (hk : k < s.size) (h : chB (bt s k) = false) : nameB s = false := decide_eq_false fun ⟨_, _, _, h1⟩ => by have := h1 k hk; rw [h] at this; cases this
theorem nameB_ok {s : ByteArray} (h1 : ¬ s.size < 1) (h2 : ¬ 12 < s.size) (h3 : letB (bt s 0) = true) (h : ∀ k, k < s.size → chB (bt s k) = true) : nameB s = true := decide_eq_true ⟨by omega, by omega, h3, h⟩
set_option maxHeartbeats 1000000 in
theorem isLetter_b {c : Int} {v : Bool} (h : letB c = v) (w : World) : Calls Try.prog 85 #[.int .u8 c] w fun e w' => w = w' ∧ e = .returned (.bool v) := by
  subst h
  by_cases h1 : 97 ≤ c <;> by_cases h2 : c ≤ 122 <;> by_cases h3 : 65 ≤ c <;> by_cases h4 : c ≤ 90
  all_goals first
    | (exfalso; omega)
    | (go_enter Try.func85, Try.ntmps85
       go_wp2
       go_ret
       exact ⟨rfl, ret_bool (by simp [letB, h1, h2, h3, h4])⟩)
set_option maxHeartbeats 1000000 in
theorem isDigit_b {c : Int} {v : Bool} (h : digB c = v) (w : World) : Calls Try.prog 86 #[.int .u8 c] w fun e w' => w = w' ∧ e = .returned (.bool v) := by
  subst h
  by_cases h1 : 48 ≤ c <;> by_cases h2 : c ≤ 57
  all_goals first
    | (exfalso; omega)
    | (go_enter Try.func86, Try.ntmps86
       go_wp2
       go_ret
       exact ⟨rfl, ret_bool (by simp [digB, h1, h2])⟩)
set_option maxHeartbeats 4000000 in
theorem isName_any (s : ByteArray) (w : World) (hs : s.size ≤ 30) : Calls Try.prog 58 #[.string s] w fun e w' => w = w' ∧ e = .returned (.bool (nameB s)) := by
  by_cases h1 : s.size < 1
  · rw [nameB_short h1]
    go_enter Try.func58, Try.ntmps58
    go_wp2
    go_ret
    exact ⟨rfl, rfl⟩
  by_cases h2 : 12 < s.size
  · rw [nameB_long h2]
    go_enter Try.func58, Try.ntmps58
    go_wp2
    go_ret
    exact ⟨rfl, rfl⟩
  have hi0 : ∀ W : World, (Instr.index 9 (.string s) (.int .i64 0)).run Try.prog W = .ok (.int .u8 (bt s 0)) W := fun W => index_at s 0 (by omega) W
  obtain ⟨c0, hc0⟩ : ∃ c, bt s 0 = c := ⟨_, rfl⟩
  rw [hc0] at hi0
  obtain ⟨v, hl0⟩ : ∃ v, letB c0 = v := ⟨_, rfl⟩
  have HL0 := Lib.hid hl0
  have HC0 := Lib.hid hc0
  clear hl0 hc0
  have HL : True := trivial
  have HD : True := trivial
  cases v
  · rw [nameB_first (by rw [HC0.out]; exact HL0.out)]
    go_enter Try.func58, Try.ntmps58
    go_wp2_with (first
        | (go_at_call 85; with_reducible refine (isLetter_b HL0.out _).mono ?_; rintro e w' ⟨rfl, rfl⟩)
        | (go_at_call 85; with_reducible refine (isLetter_b HL.out _).mono ?_; rintro e w' ⟨rfl, rfl⟩)
        | (go_at_call 86; with_reducible refine (isDigit_b HD.out _).mono ?_; rintro e w' ⟨rfl, rfl⟩))
    go_ret
    exact ⟨rfl, rfl⟩
  obtain ⟨R, hR⟩ : ∃ R, nameB s = R := ⟨_, rfl⟩
  have HR := Lib.hid hR
  rw [hR]
  clear hR
  go_enter Try.func58, Try.ntmps58
  go_wp2_with (first
        | (go_at_call 85; with_reducible refine (isLetter_b HL0.out _).mono ?_; rintro e w' ⟨rfl, rfl⟩)
        | (go_at_call 85; with_reducible refine (isLetter_b HL.out _).mono ?_; rintro e w' ⟨rfl, rfl⟩)
        | (go_at_call 86; with_reducible refine (isDigit_b HD.out _).mono ?_; rintro e w' ⟨rfl, rfl⟩))
  go_loop [3, 20] (fun _ i => ∃ k : Nat, k ≤ s.size ∧ i = .int .i64 k ∧ Hid (∀ j, j < k → chB (bt s j) = true)) (fun _ i => s.size - (intOf i).toNat)
  case atStart => exact ⟨0, Nat.zero_le _, rfl, Lib.hid (fun j hj => absurd hj (Nat.not_lt_zero _))⟩
  case round =>
    obtain ⟨k, hk, rfl, HA⟩ := hrel
    clear HL HD hi0
    by_cases hlt : k < s.size
    · have hik := index_at s k hlt
      obtain ⟨c, hc⟩ : ∃ c, bt s k = c := ⟨_, rfl⟩
      rw [hc] at hik
      have HC := Lib.hid hc
      clear hc
      obtain ⟨v1, hl1⟩ : ∃ v, letB c = v := ⟨_, rfl⟩
      obtain ⟨v2, hd1⟩ : ∃ v, digB c = v := ⟨_, rfl⟩
      have HL := Lib.hid hl1
      have HD := Lib.hid hd1
      clear hl1 hd1
      have fin : (v1 || (v2 || decide (c = 45))) = chB (bt s k) := by rw [HC.out, chB, HL.out, HD.out]
      have HF := Lib.hid fin
      clear fin
      have HZ : Hid (chB (bt s k) = true → ∀ j, j < k + 1 → chB (bt s j) = true) := Lib.hid fun h j hj => by
        rcases Nat.lt_or_ge j k with h2 | h2
        · exact HA.out j h2
        · obtain rfl : j = k := by omega
          exact h
      cases v1
      · cases v2
        · by_cases h45 : c = 45
          · subst h45
            go_wp2_with (first
        | (go_at_call 85; with_reducible refine (isLetter_b HL0.out _).mono ?_; rintro e w' ⟨rfl, rfl⟩)
        | (go_at_call 85; with_reducible refine (isLetter_b HL.out _).mono ?_; rintro e w' ⟨rfl, rfl⟩)
        | (go_at_call 86; with_reducible refine (isDigit_b HD.out _).mono ?_; rintro e w' ⟨rfl, rfl⟩))
            go_round
            case rel => exact ⟨k + 1, by omega, by go_num, Lib.hid (HZ.out (by rw [← HF.out]; rfl))⟩
            case measure => simp [intOf]; omega
          · have h45b : (c != 45) = true := by simpa using h45
            go_wp2_with (first
        | (go_at_call 85; with_reducible refine (isLetter_b HL0.out _).mono ?_; rintro e w' ⟨rfl, rfl⟩)
        | (go_at_call 85; with_reducible refine (isLetter_b HL.out _).mono ?_; rintro e w' ⟨rfl, rfl⟩)
        | (go_at_call 86; with_reducible refine (isDigit_b HD.out _).mono ?_; rintro e w' ⟨rfl, rfl⟩))
            go_ret
            exact ⟨rfl, ret_bool (by rw [← HR.out]; exact (nameB_bad hlt (by rw [← HF.out]; simp [h45])).symm)⟩
        · go_wp2_with (first
        | (go_at_call 85; with_reducible refine (isLetter_b HL0.out _).mono ?_; rintro e w' ⟨rfl, rfl⟩)
        | (go_at_call 85; with_reducible refine (isLetter_b HL.out _).mono ?_; rintro e w' ⟨rfl, rfl⟩)
        | (go_at_call 86; with_reducible refine (isDigit_b HD.out _).mono ?_; rintro e w' ⟨rfl, rfl⟩))
          go_round
          case rel => exact ⟨k + 1, by omega, by go_num, Lib.hid (HZ.out (by rw [← HF.out]; rfl))⟩
          case measure => simp [intOf]; omega
      · go_wp2_with (first
        | (go_at_call 85; with_reducible refine (isLetter_b HL0.out _).mono ?_; rintro e w' ⟨rfl, rfl⟩)
        | (go_at_call 85; with_reducible refine (isLetter_b HL.out _).mono ?_; rintro e w' ⟨rfl, rfl⟩)
        | (go_at_call 86; with_reducible refine (isDigit_b HD.out _).mono ?_; rintro e w' ⟨rfl, rfl⟩))
        go_round
        case rel => exact ⟨k + 1, by omega, by go_num, Lib.hid (HZ.out (by rw [← HF.out]; rfl))⟩
        case measure => simp [intOf]; omega
    · go_wp2
      go_ret
      exact ⟨rfl, ret_bool (by rw [← HR.out]; exact (nameB_ok h1 h2 (by rw [HC0.out]; exact HL0.out) (fun j hj => HA.out j (by omega))).symm)⟩

end Go.Proofs.Ytmcefodfppdajaa
