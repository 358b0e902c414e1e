/- Walks: awake of chapter 3. -/
import Derived.Test.YtkcbfkflkepfeaaLawA
import Derived.Test.YtkcbfkflkepfeaaTableFn2
import Derived.Test.YtkcbfkflkepfeaaWaysA
import Derived.Test.YtkcbfkflkepfeaaCostOf
import Derived.Laws.StructEq
namespace Go.Proofs.Ytkcbfkflkepfeaa
open Go.RowKit

theorem Ints.past {w w' : World} {n c : Nat} {A : Option Addr} {l : List Int} (h : Ints w w.heap.size A n c l) (hb : Below w.heap.size w w') : Ints w' w'.heap.size A n c l := h.below hb (Nat.le_refl _) hb.size
theorem plain_table (a b : Nat) (w : World) (h : SysAt w w.heap.size (some ⟨a, 0, none⟩) 2 2 (some ⟨b, 0, none⟩) 1 1 plainSys) :
    Calls Try.prog 27 #[.agg #[.slice (some ⟨a, 0, none⟩) 2 2, .slice (some ⟨b, 0, none⟩) 1 1, .int .i64 plainSys.width, .int .i64 plainSys.gap, .int .i64 plainSys.lift], .int .i64 3000] w fun e w' => Below w.heap.size w w' ∧ ∃ TA tc, e = .returned (.tuple #[.slice TA 7 tc, .int .i64 0]) ∧ Ints w' w'.heap.size TA 7 tc [0, 10000, 10001, 20001, 20002, 1, 10001] := by
  have ht := table_ok _ _ _ _ _ _ plainSys w h 3000 (by kernel_rfl)
  have h1 : ((3000 : Int).tdiv plainSys.unit).toNat = 6 := by kernel_rfl
  have h2 : tab plainSys.parts 6 = [0, 10000, 10001, 20001, 20002, 1, 10001] := by kernel_rfl
  rw [h1, h2] at ht
  exact ht
theorem plain_ways (a b : Nat) (w : World) (h : SysAt w w.heap.size (some ⟨a, 0, none⟩) 2 2 (some ⟨b, 0, none⟩) 1 1 plainSys) :
    Calls Try.prog 32 #[.agg #[.slice (some ⟨a, 0, none⟩) 2 2, .slice (some ⟨b, 0, none⟩) 1 1, .int .i64 plainSys.width, .int .i64 plainSys.gap, .int .i64 plainSys.lift], .int .i64 2000] w fun e w' => Below w.heap.size w w' ∧ e = .returned (.tuple #[.int .i64 3, .int .i64 0]) := by
  have ht := ways_any _ _ _ _ _ _ plainSys w h 2000
  have h1 : plainSys.waysR 2000 = (3, 0) := by kernel_rfl
  rw [h1] at ht
  exact ht
theorem plain_cost (a b g1 g2 : Nat) (w : World) (h : SysAt w w.heap.size (some ⟨a, 0, none⟩) 2 2 (some ⟨b, 0, none⟩) 1 1 plainSys) (k1 : Bk w g1 3 #[.int .i64 2500, .int .i64 1000]) (k2 : Bk w g2 3 #[.int .i64 500]) :
    Calls Try.prog 14 #[.agg #[.slice (some ⟨a, 0, none⟩) 2 2, .slice (some ⟨b, 0, none⟩) 1 1, .int .i64 plainSys.width, .int .i64 plainSys.gap, .int .i64 plainSys.lift], .agg #[.slice (some ⟨g1, 0, none⟩) 2 2, .slice (some ⟨g2, 0, none⟩) 1 1]] w fun e w' => Below w.heap.size w w' ∧ e = .returned (.tuple #[.agg #[.int .i64 2, .int .i64 2], .int .i64 0]) := by
  have hc : CloAt w w.heap.size (some ⟨g1, 0, none⟩) 2 2 (some ⟨g2, 0, none⟩) 1 1 [2500, 1000] [500] :=
    ⟨⟨Nums.of_bk (by simpa [i64s] using k1) k1.lt rfl (Nat.le_refl _) (by omega), fun h => by cases h⟩, ⟨Nums.of_bk (by simpa [i64s] using k2) k2.lt rfl (Nat.le_refl _) (by omega), fun h => by cases h⟩⟩
  have ht := costOf_ok _ _ _ _ _ _ plainSys w h _ _ _ _ _ _ _ _ hc ⟨by kernel_rfl, by simp, by simp, by kernel_rfl, by kernel_rfl, by kernel_rfl, by kernel_rfl⟩
  have h1 : ((1 + odds plainSys.reg [2500, 1000] : Nat) : Int) = 2 := by kernel_rfl
  rw [h1] at ht
  exact ht

theorem eq_cost (a b : Int) (w : World) : (binOp .eql 36 (.agg #[.int .i64 a, .int .i64 b]) (.agg #[.int .i64 a, .int .i64 b])).run Try.prog w = .ok (.bool true) w := by
  go_simp

set_option maxHeartbeats 4000000 in
theorem awake_any (w : World) : Calls Try.prog 8 #[] w fun e w' => Below w.heap.size w w' ∧ e = .returned (.bool true) := by
  have hec := fun W : World => eq_cost 2 2 W
  go_enter Try.func8, Try.ntmps8
  go_wp2_with (first
    | (go_at_call 35; refine (plain_any _).mono ?_; rintro e wp ⟨hbp, pa, pb, rfl, hs⟩; have HSY := Lib.hid hs; clear hs)
    | (go_at_call 27; refine (plain_table _ _ _ HSY.out).mono ?_; rintro e wt ⟨hbt, TA, tc, rfl, ht⟩; have HT := Lib.hid ht; clear ht HSY)
    | (go_at_call 32; refine (plain_ways _ _ _ HSY.out).mono ?_; rintro e ww ⟨hbw, rfl⟩; clear HSY)
    | (go_at_call 14; refine (plain_cost _ _ _ _ _ (by have hs := HSY.out; exact ⟨hs.a.below (D := wp.heap.size) (by exact (by repeat (first | with_reducible exact Below.refl _ _ | with_reducible assumption | with_reducible refine Below.drew ?_ | with_reducible refine Below.drewN ?_ _ | with_reducible refine Below.alloc2 ?_ _ | with_reducible refine Below.alloc ?_ (by first | omega | (simp <;> omega)) _ | with_reducible refine Below.setCell ?_ (by first | omega | (simp <;> omega)) _ | with_reducible refine Below.step2 (by with_reducible assumption) ?_ | with_reducible refine Below.step (by with_reducible assumption) ?_ (by first | omega | (simp <;> omega))))) (Nat.le_refl _) (by first | omega | (simp; omega)), hs.b.below (D := wp.heap.size) (by exact (by repeat (first | with_reducible exact Below.refl _ _ | with_reducible assumption | with_reducible refine Below.drew ?_ | with_reducible refine Below.drewN ?_ _ | with_reducible refine Below.alloc2 ?_ _ | with_reducible refine Below.alloc ?_ (by first | omega | (simp <;> omega)) _ | with_reducible refine Below.setCell ?_ (by first | omega | (simp <;> omega)) _ | with_reducible refine Below.step2 (by with_reducible assumption) ?_ | with_reducible refine Below.step (by with_reducible assumption) ?_ (by first | omega | (simp <;> omega))))) (Nat.le_refl _) (by first | omega | (simp; omega))⟩) (by exact (by repeat (first | with_reducible assumption | with_reducible exact Bk.at_ (by first | (simp; done) | omega) | with_reducible refine Bk.alloc ?_ _ | with_reducible refine Bk.drew ?_ | with_reducible refine Bk.drewN ?_ _ | with_reducible refine Bk.step (by with_reducible assumption) ?_ (by first | omega | (simp <;> omega))))) (by exact (by repeat (first | with_reducible assumption | with_reducible exact Bk.at_ (by first | (simp; done) | omega) | with_reducible refine Bk.alloc ?_ _ | with_reducible refine Bk.drew ?_ | with_reducible refine Bk.drewN ?_ _ | with_reducible refine Bk.step (by with_reducible assumption) ?_ (by first | omega | (simp <;> omega)))))).mono ?_; rintro e wc ⟨hbc, rfl⟩)
    | (go_at_call 29; refine (ints_any _ _ _ _ _ _ [0, 10000, 10001, 20001, 20002, 1, 10001] _ (HT.out.past (by exact (by repeat (first | with_reducible exact Below.refl _ _ | with_reducible assumption | with_reducible refine Below.drew ?_ | with_reducible refine Below.drewN ?_ _ | with_reducible refine Below.alloc2 ?_ _ | with_reducible refine Below.alloc ?_ (by first | omega | (simp <;> omega)) _ | with_reducible refine Below.setCell ?_ (by first | omega | (simp <;> omega)) _ | with_reducible refine Below.step2 (by with_reducible assumption) ?_ | with_reducible refine Below.step (by with_reducible assumption) ?_ (by first | omega | (simp <;> omega)))))).nums (Nums.of_bk (g := wc.heap.size + 1) (t := 3) (by simp only [i64s, List.map]; exact (by repeat (first | with_reducible assumption | with_reducible exact Bk.at_ (by first | (simp; done) | omega) | with_reducible refine Bk.alloc ?_ _ | with_reducible refine Bk.drew ?_ | with_reducible refine Bk.drewN ?_ _ | with_reducible refine Bk.step (by with_reducible assumption) ?_ (by first | omega | (simp <;> omega))))) (by simp) rfl (Nat.le_refl _) (by omega)) rfl).mono ?_; rintro e wi ⟨hbi, rfl⟩; have hk : Bk wi wc.heap.size 36 #[.int .i64 2, .int .i64 2] := (by exact (by repeat (first | with_reducible assumption | with_reducible exact Bk.at_ (by first | (simp; done) | omega) | with_reducible refine Bk.alloc ?_ _ | with_reducible refine Bk.drew ?_ | with_reducible refine Bk.drewN ?_ _ | with_reducible refine Bk.step (by with_reducible assumption) ?_ (by first | omega | (simp <;> omega))))); obtain ⟨⟨k0, k1⟩, -⟩ := hk.two; have HKI := Lib.hid hk; clear hk))
  go_ret
  exact ⟨(by repeat (first | with_reducible exact Below.refl _ _ | with_reducible assumption | with_reducible refine Below.drew ?_ | with_reducible refine Below.drewN ?_ _ | with_reducible refine Below.alloc2 ?_ _ | with_reducible refine Below.alloc ?_ (by first | omega | (simp <;> omega)) _ | with_reducible refine Below.setCell ?_ (by first | omega | (simp <;> omega)) _ | with_reducible refine Below.step2 (by with_reducible assumption) ?_ | with_reducible refine Below.step (by with_reducible assumption) ?_ (by first | omega | (simp <;> omega)))), rfl⟩

end Go.Proofs.Ytkcbfkflkepfeaa
