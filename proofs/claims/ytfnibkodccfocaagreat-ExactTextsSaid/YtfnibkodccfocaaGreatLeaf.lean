/- Walks of functions that only compute: sums with carry, comparison, parts of words. -/
import Derived.Test.YtfnibkodccfocaaGreatProg
import Derived.Test.YtfnibkodccfocaaGreatMem
import Derived.Test.YtfnibkodccfocaaGreatTrim
import Derived.Deep.RegionHeld3
namespace Go.Proofs.YtfnibkodccfocaaGreat
open Go.RowKit

/-- What cmp.Compare tells of two integers. -/
def cmpI (x y : Int) : Int := if x < y then -1 else if x = y then 0 else 1
theorem cmpI_lt {x y : Int} (h : x < y) : cmpI x y = -1 := by unfold cmpI; rw [if_pos h]
theorem cmpI_eq {x y : Int} (h : x = y) : cmpI x y = 0 := by unfold cmpI; rw [if_neg (by omega), if_pos h]
theorem cmpI_gt {x y : Int} (h : y < x) : cmpI x y = 1 := by unfold cmpI; rw [if_neg (by omega), if_neg (by omega)]
theorem cmpI_cast (a b : Nat) : cmpI a b = cmpN a b := by
  unfold cmpI cmpN
  simp only [Int.ofNat_lt, Int.ofNat_inj]

theorem ret_int {k : IntKind} {a b : Int} (h : a = b) : Ending.returned (.int k a) = .returned (.int k b) := by rw [h]
theorem ret_int2 {k m : IntKind} {a b c d : Int} (h : a = b) (h2 : c = d) : Ending.returned (.tuple #[.int k a, .int m c]) = .returned (.tuple #[.int k b, .int m d]) := by rw [h, h2]

set_option maxHeartbeats 400000 in
theorem add32_any (x y c : Nat) (w : World) (hx : x < 4294967296) (hy : y < 4294967296) (hc : c ≤ 1) :
    Calls Tryz.prog 92 #[.int .u32 (x : Int), .int .u32 (y : Int), .int .u32 (c : Int)] w fun e w' => w = w' ∧
      ∃ s r : Nat, e = .returned (.tuple #[.int .u32 (s : Int), .int .u32 (r : Int)]) ∧ s < 4294967296 ∧ r ≤ 1 ∧ s + 4294967296 * r = x + y + c := by
  go_enter Tryz.func92, Tryz.ntmps92
  go_wp2
  go_ret2
  exact ⟨rfl, (x + y + c) % 4294967296, (x + y + c) / 4294967296, ret_int2 (by omega) (by omega), by omega, by omega, by omega⟩

set_option maxHeartbeats 400000 in
theorem cmp_int_any (x y : Int) (w : World) :
    Calls Tryz.prog 93 #[.int .i64 x, .int .i64 y] w fun e w' => w = w' ∧ e = .returned (.int .i64 (cmpI x y)) := by
  go_enter Tryz.func93, Tryz.ntmps93
  go_wp2
  · have h : x < y := by assumption
    go_ret
    exact ⟨rfl, ret_int (cmpI_lt h).symm⟩
  · have h : y < x := by assumption
    go_ret
    exact ⟨rfl, ret_int (cmpI_gt h).symm⟩
  · have h1 : y ≤ x := by assumption
    have h2 : x ≤ y := by assumption
    go_ret
    exact ⟨rfl, ret_int (cmpI_eq (by omega)).symm⟩

set_option maxHeartbeats 400000 in
theorem cmp_u32_any (x y : Int) (w : World) :
    Calls Tryz.prog 94 #[.int .u32 x, .int .u32 y] w fun e w' => w = w' ∧ e = .returned (.int .i64 (cmpI x y)) := by
  go_enter Tryz.func94, Tryz.ntmps94
  go_wp2
  · have h : x < y := by assumption
    go_ret
    exact ⟨rfl, ret_int (cmpI_lt h).symm⟩
  · have h : y < x := by assumption
    go_ret
    exact ⟨rfl, ret_int (cmpI_gt h).symm⟩
  · have h1 : y ≤ x := by assumption
    have h2 : x ≤ y := by assumption
    go_ret
    exact ⟨rfl, ret_int (cmpI_eq (by omega)).symm⟩

set_option maxHeartbeats 400000 in
theorem signed_any (s : Bool) (A : Option Addr) (n c : Nat) (w : World) :
    Calls Tryz.prog 56 #[.bool s, .slice A n c] w fun e w' => e = .returned (.agg #[.bool (s && decide (0 < n)), .slice A n c]) ∧ Below w.heap.size w w' := by
  go_enter Tryz.func56, Tryz.ntmps56
  go_wp2
  all_goals
    refine bodyPost_ret (v := .agg #[.bool (s && decide (0 < n)), .slice A n c]) (by simp [results, Tryz.results56, go_sem, *]) rfl ⟨rfl, ?_⟩
    exact (Below.refl _ _).alloc (Nat.le_refl _) _

set_option maxHeartbeats 400000 in
theorem limbsOf_any (x : Nat) (w : World) (hx : x < 18446744073709551616) :
    Calls Tryz.prog 57 #[.int .u64 (x : Int)] w fun e w' => Below w.heap.size w w' ∧ ∃ A n c l, e = .returned (.slice A n c) ∧ Lim w' w'.heap.size A n c l ∧ Norm l ∧ val l = x := by
  go_enter Tryz.func57, Tryz.ntmps57
  have hl : Lim (w.alloc (.cells #[.int .u32 ((x : Int) % 4294967296), .int .u32 ((x : Int) / 4294967296)] 75)) (w.heap.size + 1) (some ⟨w.heap.size, 0, none⟩) 2 2 [x % 4294967296, x / 4294967296] := by
    refine ⟨?_, Bd.nil.cons (by omega) |>.cons (by omega)⟩
    have := (Bk.alloc_ w 75 #[.int .u32 ((x : Int) % 4294967296), .int .u32 ((x : Int) / 4294967296)]).sl (B := w.heap.size + 1) (size := 1) (n := 2) (c := 2) (by omega) (by omega) (by omega) (by simp)
    simpa [u32s] using this
  have HL := Lib.hid hl
  clear hl
  go_wp2_with (go_at_call 88; refine (trim_any _ _ _ _ _ _ HL.out).mono ?_; rintro e w' ⟨rfl, m, rfl, hm, hv, hn⟩)
  go_ret
  refine ⟨(Below.refl _ _).alloc (Nat.le_refl _) _, _, m, 2, _, rfl, by simpa using HL.out.take hm, hn, ?_⟩
  rw [hv]
  simp only [val]
  omega

set_option maxHeartbeats 400000 in
theorem isOne_any (A : Option Addr) (n c : Nat) (l : List Nat) (B : Nat) (w : World) (h : Lim w B A n c l) :
    Calls Tryz.prog 82 #[.slice A n c] w fun e w' => w = w' ∧ e = .returned (.bool (decide (l = [1]))) := by
  have hlen := h.len
  by_cases h1 : n = 1
  · subst h1
    obtain ⟨b, o, x, rfl, hb, hx, hxb, hc⟩ := h.at_ (k := 0) (by omega)
    obtain ⟨y, rfl⟩ : ∃ y, l = [y] := by
      match l, hlen with
      | [y], _ => exact ⟨y, rfl⟩
    simp at hx
    subst hx
    rw [Nat.add_zero] at hc
    by_cases hy : y = 1
    · subst hy
      go_enter Tryz.func82, Tryz.ntmps82
      go_wp2
      go_ret
      exact ⟨rfl, rfl⟩
    · have e : decide ([y] = [1]) = false := by simp [hy]
      have e2 : ((y : Int) == 1) = false := by simp; omega
      rw [e]
      clear hlen e
      go_enter Tryz.func82, Tryz.ntmps82
      go_wp2
      go_ret
      exact ⟨rfl, rfl⟩
  · have e : decide (l = [1]) = false := by
      rw [decide_eq_false_iff_not]; rintro rfl; simp at hlen; omega
    have e2 : ((n : Int) == 1) = false := by simp; omega
    rw [e]
    clear hlen e
    go_enter Tryz.func82, Tryz.ntmps82
    go_wp2
    go_ret
    exact ⟨rfl, rfl⟩

set_option maxHeartbeats 400000 in
theorem opposite_any (s : Bool) (A : Option Addr) (n c : Nat) (w : World) :
    Calls Tryz.prog 63 #[.agg #[.bool s, .slice A n c]] w fun e w' => e = .returned (.agg #[.bool (!s), .slice A n c]) ∧ Below w.heap.size w w' := by
  go_enter Tryz.func63, Tryz.ntmps63
  go_wp2
  refine bodyPost_ret (v := .agg #[.bool (!s), .slice A n c]) (by simp [results, Tryz.results63, go_sem, *]) rfl ⟨rfl, ?_⟩
  exact ((Below.refl _ _).alloc (Nat.le_refl _) _).alloc (by simp) _

set_option maxHeartbeats 400000 in
theorem isZero_any (s : Bool) (A : Option Addr) (n c : Nat) (l : List Nat) (w : World) (h : Lim w w.heap.size A n c l) :
    Calls Tryz.prog 66 #[.agg #[.bool s, .slice A n c]] w fun e w' => e = .returned (.bool (decide (val l = 0))) ∧ Below w.heap.size w w' := by
  have hl := fun o => h.alloc o (Nat.le_refl _) (Nat.le_refl _)
  have HL := Lib.hid hl
  have HN := Lib.hid h.len
  clear hl h
  go_enter Tryz.func66, Tryz.ntmps66
  go_wp2_with (go_at_call 88; refine (trim_any _ _ _ _ _ _ (HL.out _)).mono ?_; rintro e w' ⟨rfl, m, rfl, hm, hv, hn⟩)
  go_ret
  refine ⟨?_, (Below.refl _ _).alloc (Nat.le_refl _) _⟩
  have e1 : ((m : Int) == 0) = decide (val l = 0) := by
    rw [← hv, Bool.eq_iff_iff]
    simp only [beq_iff_eq, decide_eq_true_eq]
    rw [norm_zero hn]
    constructor
    · intro h0
      have : m = 0 := by omega
      subst this; simp
    · intro h0
      have := congrArg List.length h0
      rw [List.length_take, HN.out, Nat.min_eq_left hm] at this
      simp at this; omega
  rw [← e1]
  rfl

set_option maxHeartbeats 1000000 in
theorem read_any (s : Bool) (A : Option Addr) (n c : Nat) (l : List Nat) (w : World) (h : Lim w w.heap.size A n c l) :
    Calls Tryz.prog 52 #[.agg #[.bool s, .slice A n c]] w fun e w' => Below w.heap.size w w' ∧
      ∃ s' m, e = .returned (.agg #[.bool s', .slice A m c]) ∧ m ≤ n ∧ val (l.take m) = val l ∧ Norm (l.take m) ∧ s' = (s && decide (0 < m)) := by
  have HL : Hid (∀ w', Below w.heap.size w w' → Lim w' w.heap.size A n c l) := fun w' hb => h.below hb (Nat.le_refl _) (Nat.le_refl _)
  clear h
  go_enter Tryz.func52, Tryz.ntmps52
  go_wp2_with fail
  go_region_held3 (fun w' => w'.cell? ⟨w.heap.size, 0, none⟩ = some (.bool s) ∧ w'.cell? ⟨w.heap.size, 1, none⟩ = some (.slice A n c))
    (first | go_keep | (refine ⟨?_, ?_⟩ <;> (rw [hc _ _ (by simp; omega)]; go_keep)))
    (first
      | (go_at_call 88; refine (trim_any _ _ _ _ _ _ (HL.out _ (by repeat (first | exact Below.refl _ _ | assumption | refine Below.drew ?_ | refine Below.drewN ?_ _ | refine Below.alloc ?_ (by simp <;> omega) _ | refine Below.setCell ?_ (by simp <;> omega) _)))).mono ?_; rintro e w' ⟨rfl, m, rfl, hm, hv, hn⟩)
      | (go_at_call 56; refine (signed_any _ _ _ _ _).mono ?_; rintro e w' ⟨rfl, hb⟩; obtain ⟨hc, hf⟩ := bcell hb; have hz := hb.size; simp at hz; have hB : Below w.heap.size w w' := Below.trans (by repeat (first | exact Below.refl _ _ | assumption | refine Below.drew ?_ | refine Below.drewN ?_ _ | refine Below.alloc ?_ (by simp <;> omega) _ | refine Below.setCell ?_ (by simp <;> omega) _)) (hb.mono (by simp; omega))))
  go_wp2
  refine bodyPost_ret (v := .agg #[.bool (s && decide (0 < m)), .slice A m c]) (by simp [results, Tryz.results52, go_sem, hc]) rfl ⟨(by repeat (first | exact Below.refl _ _ | assumption | refine Below.drew ?_ | refine Below.drewN ?_ _ | refine Below.alloc ?_ (by simp <;> omega) _ | refine Below.setCell ?_ (by simp <;> omega) _)), _, m, rfl, hm, hv, hn, rfl⟩

end Go.Proofs.YtfnibkodccfocaaGreat
