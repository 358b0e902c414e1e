/- Chapter 8, walks: ranges of numbers. -/
import Derived.Test.YtmcefodfppdajaaProg
import Derived.Test.YtmcefodfppdajaaCells
import Derived.StillTailTactics
import Derived.IntWalk
import Derived.BigQuiet
import Derived.Deep.RegionHeld3
import Derived.Deep.QuietTactic
namespace Go.Proofs.Ytmcefodfppdajaa
open Go.RowKit

def inR (lo hi x : Int) : Bool := decide (lo ≤ x ∧ x ≤ hi)
theorem inR_iff {lo hi x : Int} : inR lo hi x = true ↔ lo ≤ x ∧ x ≤ hi := by simp [inR]
theorem inR_not {lo hi x : Int} : inR lo hi x = false ↔ ¬ (lo ≤ x ∧ x ≤ hi) := by simp [inR]
set_option maxHeartbeats 400000 in
theorem within_any (n a b : Int) (w : World) : Calls Try.prog 57 #[.int .i64 n, .int .i64 a, .int .i64 b] w fun e w' => w = w' ∧ e = .returned (.bool (inR a b n)) := by
  by_cases h1 : a ≤ n <;> by_cases h2 : n ≤ b
  all_goals
    go_enter Try.func57, Try.ntmps57
    go_wp2
    go_ret
    exact ⟨rfl, ret_bool (by simp [inR, h1, h2])⟩
theorem within_b {n a b : Int} {v : Bool} (h : inR a b n = v) (w : World) : Calls Try.prog 57 #[.int .i64 n, .int .i64 a, .int .i64 b] w fun e w' => w = w' ∧ e = .returned (.bool v) := by
  subst h
  exact within_any n a b w
/-- All of some numbers are from least to most. -/
def allIn (lo hi : Int) (l : List Int) : Bool := l.all (inR lo hi)
theorem allIn_not {lo hi x : Int} {r : List Int} (h : ¬ (lo ≤ x ∧ x ≤ hi)) : allIn lo hi (x :: r) = false := by
  show (inR lo hi x && _) = false
  rw [inR_not.2 h]
  rfl
set_option maxHeartbeats 1000000 in
theorem areFrom_any (A : Option Addr) (n c B : Nat) (l : List Int) (lo hi : Int) (w : World) (h : Nums w B A n c l) :
    Calls Try.prog 59 #[.int .i64 lo, .int .i64 hi, .slice A n c] w fun e w' => w = w' ∧ e = .returned (.bool (allIn lo hi l)) := by
  have hcap := h.cap
  have hmax := h.max
  have HLEN := Lib.hid h.len
  obtain ⟨R, hR⟩ : ∃ R, allIn lo hi l = R := ⟨_, rfl⟩
  have HR := Lib.hid hR
  rw [hR]
  clear hR
  go_enter Try.func59, Try.ntmps59
  go_wp2
  go_loop [8, 11] (fun _ i => ∃ k : Nat, k ≤ n ∧ i = .int .i64 k ∧ Hid (allIn lo hi (l.drop k) = R)) (fun _ i => n - (intOf i).toNat)
  case atStart => exact ⟨0, Nat.zero_le _, rfl, Lib.hid (by simpa using HR.out)⟩
  case round =>
    obtain ⟨k, hk, rfl, HV⟩ := hrel
    by_cases hlt : k < n
    · obtain ⟨b, o, x, rfl, hb, hx, hc⟩ := h.at_ hlt
      obtain ⟨hkl, hxl⟩ := List.getElem?_eq_some_iff.1 hx
      have HD : Hid (l.drop k = x :: l.drop (k + 1)) := Lib.hid (by rw [← hxl]; exact List.drop_eq_getElem_cons hkl)
      clear hx hkl hxl
      by_cases h1 : lo ≤ x
      · by_cases h2 : x ≤ hi
        · go_wp2
          go_round
          case rel => exact ⟨k + 1, by omega, by go_num, Lib.hid (by rw [← HV.out, HD.out]; simp [allIn, inR, h1, h2])⟩
          case measure => simp [intOf]; omega
        · go_wp2
          go_ret
          exact ⟨rfl, ret_bool (by rw [← HV.out, HD.out]; exact (allIn_not (by omega)).symm)⟩
      · go_wp2
        go_ret
        exact ⟨rfl, ret_bool (by rw [← HV.out, HD.out]; exact (allIn_not (by omega)).symm)⟩
    · go_wp2
      go_ret
      refine ⟨rfl, ret_bool ?_⟩
      rw [← HV.out, List.drop_eq_nil_of_le (by rw [HLEN.out]; omega)]
      rfl
theorem Nums.one {w : World} {g B : Nat} {x : Int} (h : w.cell? ⟨g, 0, none⟩ = some (.int .i64 x)) (hg : g < B) : Nums w B (some ⟨g, 0, none⟩) 1 1 [x] :=
  ⟨⟨rfl, Nat.le_refl _, by omega, fun _ => ⟨g, 0, rfl, hg, fun k u hu => by
    match k, hu with
    | 0, hu => simp [i64s] at hu; subst hu; exact h
    | k + 1, hu => simp [i64s] at hu⟩⟩⟩
theorem Nums.two {w : World} {g B : Nat} {x y : Int} (h : w.cell? ⟨g, 0, none⟩ = some (.int .i64 x)) (h2 : w.cell? ⟨g, 1, none⟩ = some (.int .i64 y)) (hg : g < B) : Nums w B (some ⟨g, 0, none⟩) 2 2 [x, y] :=
  ⟨⟨rfl, Nat.le_refl _, by omega, fun _ => ⟨g, 0, rfl, hg, fun k u hu => by
    match k, hu with
    | 0, hu => simp [i64s] at hu; subst hu; exact h
    | 1, hu => simp [i64s] at hu; subst hu; exact h2
    | k + 2, hu => simp [i64s] at hu⟩⟩⟩
theorem areFrom_one (lo hi x : Int) (g : Nat) (w : World) (h : w.cell? ⟨g, 0, none⟩ = some (.int .i64 x)) (b : Bool) (hb : inR lo hi x = b) :
    Calls Try.prog 59 #[.int .i64 lo, .int .i64 hi, .slice (some ⟨g, 0, none⟩) 1 1] w fun e w' => w = w' ∧ e = .returned (.bool b) := by
  have := areFrom_any _ 1 1 (g + 1) [x] lo hi w (Nums.one h (Nat.lt_succ_self g))
  rwa [show allIn lo hi [x] = b by rw [← hb]; simp [allIn]] at this
theorem areFrom_two (lo hi x y : Int) (g : Nat) (w : World) (h : w.cell? ⟨g, 0, none⟩ = some (.int .i64 x)) (h2 : w.cell? ⟨g, 1, none⟩ = some (.int .i64 y)) (b : Bool) (hb : (inR lo hi x && inR lo hi y) = b) :
    Calls Try.prog 59 #[.int .i64 lo, .int .i64 hi, .slice (some ⟨g, 0, none⟩) 2 2] w fun e w' => w = w' ∧ e = .returned (.bool b) := by
  have := areFrom_any _ 2 2 (g + 1) [x, y] lo hi w (Nums.two h h2 (Nat.lt_succ_self g))
  rwa [show allIn lo hi [x, y] = b by rw [← hb]; simp [allIn]] at this

end Go.Proofs.Ytmcefodfppdajaa
