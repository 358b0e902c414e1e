/- Chapter 6, walks: ranges of numbers, lists that ascend. -/
import Derived.Test.YtgljncfijcamhaaGreatDoorProg
import Derived.Test.YtgljncfijcamhaaGreatDoorCells
import Derived.StillTailTactics
import Derived.IntWalk
import Derived.BigQuiet
import Derived.Deep.RegionHeld3
import Derived.Deep.QuietTactic
namespace Go.Proofs.YtgljncfijcamhaaGreatDoor
open Go.RowKit

set_option maxHeartbeats 400000 in
theorem within_any (n a b : Int) (w : World) : Calls Tryz.prog 24 #[.int .i64 n, .int .i64 a, .int .i64 b] w fun e w' => w = w' ∧ e = .returned (.bool (decide (a ≤ n ∧ n ≤ b))) := by
  by_cases h1 : a ≤ n <;> by_cases h2 : n ≤ b
  all_goals
    go_enter Tryz.func24, Tryz.ntmps24
    go_wp2
    go_ret
    exact ⟨rfl, ret_bool (by simp [h1, h2])⟩

/-- The number of the first element with a property, or -1. -/
def firstI (p : Int → Bool) : List Int → Int
  | [] => -1
  | x :: l => if p x then 0 else if firstI p l < 0 then -1 else firstI p l + 1
theorem firstI_none {p : Int → Bool} : ∀ {l : List Int}, l.any p = false → firstI p l = -1
  | [], _ => rfl
  | x :: l, h => by
    simp only [List.any_cons, Bool.or_eq_false_iff] at h
    simp [firstI, h.1, firstI_none h.2]
theorem firstI_ge {p : Int → Bool} : ∀ (l : List Int), -1 ≤ firstI p l
  | [] => by simp [firstI]
  | x :: l => by
    have := firstI_ge (p := p) l
    simp only [firstI]
    split
    · omega
    · split <;> omega
theorem firstI_at {p : Int → Bool} : ∀ {l : List Int} {k : Nat} {x : Int}, l[k]? = some x → (l.take k).any p = false → p x = true → firstI p l = k
  | [], k, x, h, _, _ => by simp at h
  | y :: l, 0, x, h, _, hp => by
    simp at h
    subst h
    simp [firstI, hp]
  | y :: l, k + 1, x, h, ha, hp => by
    simp only [List.take_succ_cons, List.any_cons, Bool.or_eq_false_iff] at ha
    have := firstI_at (l := l) (k := k) (x := x) (by simpa using h) ha.2 hp
    simp only [firstI, ha.1, this]
    rw [if_neg (by simp), if_neg (by omega)]
    omega
theorem firstI_any {p : Int → Bool} : ∀ (l : List Int), decide (firstI p l ≥ 0) = l.any p
  | [] => by simp [firstI]
  | x :: l => by
    have h := firstI_any (p := p) l
    have hg := firstI_ge (p := p) l
    rw [List.any_cons, ← h]
    by_cases hx : p x = true
    · simp [firstI, hx]
    · by_cases h0 : firstI p l < 0
      · simp [firstI, hx, h0]
      · simp [firstI, hx, h0]
        omega
theorem any_snoc {p : Int → Bool} {l : List Int} {k : Nat} {x : Int} (hx : l[k]? = some x) (h : (l.take k).any p = false) (h2 : p x = false) : (l.take (k + 1)).any p = false := by
  obtain ⟨hk, rfl⟩ := List.getElem?_eq_some_iff.1 hx
  rw [List.take_succ_eq_append_getElem hk, List.any_append, h]
  simpa using h2

set_option maxHeartbeats 400000 in
theorem areFrom1_any (x lo hi : Int) (g k : Nat) (w : World) (hg : w.cell? ⟨g, 0, none⟩ = some (.int .i64 lo)) (hk : w.cell? ⟨k, 0, none⟩ = some (.int .i64 hi)) :
    Calls Tryz.prog 93 #[.int .i64 x, .pointer (some ⟨g, 0, none⟩), .pointer (some ⟨k, 0, none⟩)] w fun e w' => w = w' ∧ e = .returned (.bool (decide (x < lo ∨ hi < x))) := by
  by_cases h1 : x < lo <;> by_cases h2 : hi < x
  all_goals
    go_enter Tryz.func93, Tryz.ntmps93
    go_wp2
    go_ret
    exact ⟨rfl, ret_bool (by simp [h1, h2])⟩

/-- A number that is not between two others. -/
def outB (lo hi x : Int) : Bool := decide (x < lo ∨ hi < x)
set_option maxHeartbeats 1000000 in
theorem index_areFrom (A : Option Addr) (n c B : Nat) (l : List Int) (lo hi : Int) (g q : Nat) (w : World) (h : Nums w B A n c l)
    (hg : w.cell? ⟨g, 0, none⟩ = some (.int .i64 lo)) (hk : w.cell? ⟨q, 0, none⟩ = some (.int .i64 hi)) :
    Calls Tryz.prog 123 #[.slice A n c, .func (.func 93) #[] #[.pointer (some ⟨g, 0, none⟩), .pointer (some ⟨q, 0, none⟩)]] w fun e w' => w = w' ∧ e = .returned (.int .i64 (firstI (outB lo hi) l)) := by
  have hcap := h.cap
  have hmax := h.max
  have hlen := Lib.hid h.len
  have HP : Hid (∀ x : Int, Calls Tryz.prog 93 #[.int .i64 x, .pointer (some ⟨g, 0, none⟩), .pointer (some ⟨q, 0, none⟩)] w fun e w' => w = w' ∧ e = .returned (.bool (outB lo hi x))) := Lib.hid fun x => areFrom1_any x lo hi g q w hg hk
  clear hg hk
  go_enter Tryz.func123, Tryz.ntmps123
  go_wp2
  go_loop [5, 8] (fun _ i => ∃ k : Nat, k ≤ n ∧ i = .int .i64 k ∧ Hid ((l.take k).any (outB lo hi) = false)) (fun _ i => n - (intOf i).toNat)
  case atStart => exact ⟨0, Nat.zero_le _, rfl, by exact Lib.hid rfl⟩
  case round =>
    obtain ⟨k, hk, rfl, hall⟩ := hrel
    by_cases hlt : k < n
    · obtain ⟨b, o, x, rfl, hb, hx, hc⟩ := h.at_ hlt
      have HX := Lib.hid hx
      clear hx
      rcases hpx : outB lo hi x
      · have HPX := Lib.hid hpx
        clear hpx
        go_wp2_with (go_at_call 93; refine (HP.out x).mono ?_; rintro e w' ⟨rfl, rfl⟩; rw [HPX.out])
        go_round
        case rel => exact ⟨k + 1, by omega, by go_num, Lib.hid (any_snoc HX.out hall.out HPX.out)⟩
        case measure => simp [intOf]; omega
      · have HPX := Lib.hid hpx
        clear hpx
        go_wp2_with (go_at_call 93; refine (HP.out x).mono ?_; rintro e w' ⟨rfl, rfl⟩; rw [HPX.out])
        go_ret
        exact ⟨rfl, ret_int (firstI_at HX.out hall.out HPX.out).symm⟩
    · go_wp2
      go_ret
      refine ⟨rfl, ret_int ?_⟩
      have := hall.out
      rw [List.take_of_length_le (by rw [hlen.out]; omega)] at this
      exact (firstI_none this).symm

set_option maxHeartbeats 400000 in
theorem contains_areFrom (A : Option Addr) (n c B : Nat) (l : List Int) (lo hi : Int) (g q : Nat) (w : World) (h : Nums w B A n c l)
    (hg : w.cell? ⟨g, 0, none⟩ = some (.int .i64 lo)) (hk : w.cell? ⟨q, 0, none⟩ = some (.int .i64 hi)) :
    Calls Tryz.prog 92 #[.slice A n c, .func (.func 93) #[] #[.pointer (some ⟨g, 0, none⟩), .pointer (some ⟨q, 0, none⟩)]] w fun e w' => w = w' ∧ e = .returned (.bool (l.any (outB lo hi))) := by
  have HI := Lib.hid (index_areFrom A n c B l lo hi g q w h hg hk)
  have HA := Lib.hid (firstI_any (p := outB lo hi) l)
  clear hg hk h
  go_enter Tryz.func92, Tryz.ntmps92
  go_wp2_with (go_at_call 123; refine HI.out.mono ?_; rintro e w' ⟨rfl, rfl⟩)
  go_ret
  exact ⟨rfl, ret_bool HA.out⟩

/-- All of some numbers are from least to most. -/
def allIn (lo hi : Int) (l : List Int) : Bool := l.all fun x => decide (lo ≤ x ∧ x ≤ hi)
theorem allIn_any (lo hi : Int) (l : List Int) : (!(l.any (outB lo hi))) = allIn lo hi l := by
  unfold allIn
  induction l with
  | nil => rfl
  | cons x l ih =>
    simp only [List.any_cons, List.all_cons, Bool.not_or, ih]
    congr 1
    unfold outB
    by_cases h1 : x < lo <;> by_cases h2 : hi < x <;> simp [h1, h2] <;> omega
set_option maxHeartbeats 400000 in
theorem areFrom_any (A : Option Addr) (n c : Nat) (l : List Int) (lo hi : Int) (w : World) (h : Nums w w.heap.size A n c l) :
    Calls Tryz.prog 56 #[.int .i64 lo, .int .i64 hi, .slice A n c] w fun e w' => Below w.heap.size w w' ∧ e = .returned (.bool (allIn lo hi l)) := by
  have H : Hid (∀ w', Below w.heap.size w w' → Nums w' w.heap.size A n c l) := Lib.hid fun w' hb => h.below hb (Nat.le_refl _) (Nat.le_refl _)
  have HA := Lib.hid (allIn_any lo hi l)
  clear h
  go_enter Tryz.func56, Tryz.ntmps56
  go_wp2_with (go_at_call 92; refine (contains_areFrom A n c _ l lo hi _ _ _ (H.out _ (by exact (by repeat (first | with_reducible exact Below.refl _ _ | with_reducible assumption | with_reducible refine Below.drew ?_ | with_reducible refine Below.drewN ?_ _ | with_reducible refine Below.alloc2 ?_ _ | with_reducible refine Below.alloc ?_ (by first | omega | (simp <;> omega)) _ | with_reducible refine Below.setCell ?_ (by first | omega | (simp <;> omega)) _ | with_reducible refine Below.step2 (by with_reducible assumption) ?_ | with_reducible refine Below.step (by with_reducible assumption) ?_ (by first | omega | (simp <;> omega)))))) (by simp) (by simp)).mono ?_; rintro e w' ⟨rfl, rfl⟩)
  go_ret
  exact ⟨(by repeat (first | with_reducible exact Below.refl _ _ | with_reducible assumption | with_reducible refine Below.drew ?_ | with_reducible refine Below.drewN ?_ _ | with_reducible refine Below.alloc2 ?_ _ | with_reducible refine Below.alloc ?_ (by first | omega | (simp <;> omega)) _ | with_reducible refine Below.setCell ?_ (by first | omega | (simp <;> omega)) _ | with_reducible refine Below.step2 (by with_reducible assumption) ?_ | with_reducible refine Below.step (by with_reducible assumption) ?_ (by first | omega | (simp <;> omega)))), ret_bool HA.out⟩

end Go.Proofs.YtgljncfijcamhaaGreatDoor
