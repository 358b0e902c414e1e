/- Chapter 9, walks: weeks, on both sides. -/
import Derived.Test.YtbeijeblbchglaaBase9
import Derived.Lib.MinMax
namespace Go.Proofs.Ytbeijeblbchglaa
open Go.RowKit

/-- The weeks from a day to a day. -/
def wks (i o l : Int) : Int := if l ≤ (o - i + 7) / 7 then (o - i + 7) / 7 else l
theorem wks_max (i o l : Int) : max ((o - i + 7) / 7) l = wks i o l := by unfold wks; split <;> omega
theorem dayB_iff {n : Int} : dayB n = true ↔ 0 ≤ n ∧ n ≤ 20000 := inR_iff
theorem quo7 {i o : Int} (h : i ≤ o) : Int.tdiv (o - i + 7) 7 = (o - i + 7) / 7 := Int.tdiv_eq_ediv_of_nonneg (by omega)
set_option maxHeartbeats 400000 in
theorem weeksOf_any (i o l : Int) (h : 0 ≤ i ∧ o ≤ 20000 ∧ i ≤ o) (w : World) :
    Calls Try.prog 65 #[.int .i64 i, .int .i64 o, .int .i64 l] w fun e w' => w = w' ∧ e = .returned (.int .i64 (wks i o l)) := by
  (
    have w1 : IntKind.i64.wrap (o - i) = o - i := IntWalk.i64_in _ (by omega)
    have w2 : IntKind.i64.wrap (o - i + 1) = o - i + 1 := IntWalk.i64_in _ (by omega)
    have w3 : IntKind.i64.wrap (o - i + 1 + 6) = o - i + 7 := by rw [IntWalk.i64_in _ (by omega)]; omega
    have w4 := quo7 h.2.2
    have w5 : IntKind.i64.wrap ((o - i + 7) / 7) = (o - i + 7) / 7 := IntWalk.i64_in _ (by omega)
    rw [← wks_max]
    go_enter Try.func65, Try.ntmps65
    go_wp2
    go_ret
    exact ⟨rfl, rfl⟩)
set_option maxHeartbeats 400000 in
theorem refWeeks_any (i o l : Int) (h : 0 ≤ i ∧ o ≤ 20000 ∧ i ≤ o) (w : World) :
    Calls Try.prog 32 #[.int .i64 i, .int .i64 o, .int .i64 l] w fun e w' => w = w' ∧ e = .returned (.int .i64 (wks i o l)) := by
  (
    have w1 : IntKind.i64.wrap (o - i) = o - i := IntWalk.i64_in _ (by omega)
    have w2 : IntKind.i64.wrap (o - i + 1) = o - i + 1 := IntWalk.i64_in _ (by omega)
    have w3 : IntKind.i64.wrap (o - i + 1 + 6) = o - i + 7 := by rw [IntWalk.i64_in _ (by omega)]; omega
    have w4 := quo7 h.2.2
    have w5 : IntKind.i64.wrap ((o - i + 7) / 7) = (o - i + 7) / 7 := IntWalk.i64_in _ (by omega)
    rw [← wks_max]
    go_enter Try.func32, Try.ntmps32
    go_wp2
    go_ret
    exact ⟨rfl, rfl⟩)

set_option maxHeartbeats 1000000 in
theorem weeks_bad (i o l : Int) (b1 b2 b3 : Bool) (h1 : dayB i = b1) (h2 : dayB o = b2) (h3 : inR 0 520 l = b3) (h : (b1 && (b2 && b3)) = false) (w : World) :
    Calls Try.prog 30 #[.int .i64 i, .int .i64 o, .int .i64 l] w fun e w' => Below w.heap.size w w' ∧ e = .returned (.tuple #[.int .i64 0, .int .i64 2]) := by
  have B1 := Lib.hid h1
  have B2 := Lib.hid h2
  have B3 := Lib.hid h3
  have hh : True := trivial
  clear h1 h2 h3
  cases b1
  · go_enter Try.func30, Try.ntmps30
    go_wp2_with (first
      | (go_at_call 64; with_reducible refine (isDay_b B1.out _).mono ?_; rintro e w1 ⟨hb1, rfl⟩; have oz1 := hb1.size; (try simp at oz1))
      | (go_at_call 64; with_reducible refine (isDay_b B2.out _).mono ?_; rintro e w2 ⟨hb2, rfl⟩; have oz2 := hb2.size; (try simp at oz2))
      | (go_at_call 49; with_reducible refine (areFrom_one 0 520 l _ _ ?_ _ B3.out).mono ?_; (focus (simp; done)); rintro e w' ⟨rfl, rfl⟩)
      | (go_at_call 65; with_reducible refine (weeksOf_any i o l hh _).mono ?_; rintro e w' ⟨rfl, rfl⟩))
    go_ret2
    exact ⟨(by repeat (first | with_reducible exact Below.refl _ _ | with_reducible assumption | with_reducible refine Below.drew ?_ | with_reducible refine Below.drewN ?_ _ | with_reducible refine Below.alloc2 ?_ _ | with_reducible refine Below.alloc ?_ (by first | omega | (simp <;> omega)) _ | with_reducible refine Below.setCell ?_ (by first | omega | (simp <;> omega)) _ | with_reducible refine Below.step2 (by with_reducible assumption) ?_ | with_reducible refine Below.step (by with_reducible assumption) ?_ (by first | omega | (simp <;> omega)))), rfl⟩
  cases b2
  · go_enter Try.func30, Try.ntmps30
    go_wp2_with (first
      | (go_at_call 64; with_reducible refine (isDay_b B1.out _).mono ?_; rintro e w1 ⟨hb1, rfl⟩; have oz1 := hb1.size; (try simp at oz1))
      | (go_at_call 64; with_reducible refine (isDay_b B2.out _).mono ?_; rintro e w2 ⟨hb2, rfl⟩; have oz2 := hb2.size; (try simp at oz2))
      | (go_at_call 49; with_reducible refine (areFrom_one 0 520 l _ _ ?_ _ B3.out).mono ?_; (focus (simp; done)); rintro e w' ⟨rfl, rfl⟩)
      | (go_at_call 65; with_reducible refine (weeksOf_any i o l hh _).mono ?_; rintro e w' ⟨rfl, rfl⟩))
    go_ret2
    exact ⟨(by repeat (first | with_reducible exact Below.refl _ _ | with_reducible assumption | with_reducible refine Below.drew ?_ | with_reducible refine Below.drewN ?_ _ | with_reducible refine Below.alloc2 ?_ _ | with_reducible refine Below.alloc ?_ (by first | omega | (simp <;> omega)) _ | with_reducible refine Below.setCell ?_ (by first | omega | (simp <;> omega)) _ | with_reducible refine Below.step2 (by with_reducible assumption) ?_ | with_reducible refine Below.step (by with_reducible assumption) ?_ (by first | omega | (simp <;> omega)))), rfl⟩
  cases b3
  · go_enter Try.func30, Try.ntmps30
    go_wp2_with (first
      | (go_at_call 64; with_reducible refine (isDay_b B1.out _).mono ?_; rintro e w1 ⟨hb1, rfl⟩; have oz1 := hb1.size; (try simp at oz1))
      | (go_at_call 64; with_reducible refine (isDay_b B2.out _).mono ?_; rintro e w2 ⟨hb2, rfl⟩; have oz2 := hb2.size; (try simp at oz2))
      | (go_at_call 49; with_reducible refine (areFrom_one 0 520 l _ _ ?_ _ B3.out).mono ?_; (focus (simp; done)); rintro e w' ⟨rfl, rfl⟩)
      | (go_at_call 65; with_reducible refine (weeksOf_any i o l hh _).mono ?_; rintro e w' ⟨rfl, rfl⟩))
    go_ret2
    exact ⟨(by repeat (first | with_reducible exact Below.refl _ _ | with_reducible assumption | with_reducible refine Below.drew ?_ | with_reducible refine Below.drewN ?_ _ | with_reducible refine Below.alloc2 ?_ _ | with_reducible refine Below.alloc ?_ (by first | omega | (simp <;> omega)) _ | with_reducible refine Below.setCell ?_ (by first | omega | (simp <;> omega)) _ | with_reducible refine Below.step2 (by with_reducible assumption) ?_ | with_reducible refine Below.step (by with_reducible assumption) ?_ (by first | omega | (simp <;> omega)))), rfl⟩
  cases h
set_option maxHeartbeats 1000000 in
theorem weeks_ord (i o l : Int) (h1 : dayB i = true) (h2 : dayB o = true) (h3 : inR 0 520 l = true) (h : o < i) (w : World) :
    Calls Try.prog 30 #[.int .i64 i, .int .i64 o, .int .i64 l] w fun e w' => Below w.heap.size w w' ∧ e = .returned (.tuple #[.int .i64 0, .int .i64 10]) := by
  have B1 := Lib.hid h1
  have B2 := Lib.hid h2
  have B3 := Lib.hid h3
  have hh : True := trivial
  clear h1 h2 h3
  · go_enter Try.func30, Try.ntmps30
    go_wp2_with (first
      | (go_at_call 64; with_reducible refine (isDay_b B1.out _).mono ?_; rintro e w1 ⟨hb1, rfl⟩; have oz1 := hb1.size; (try simp at oz1))
      | (go_at_call 64; with_reducible refine (isDay_b B2.out _).mono ?_; rintro e w2 ⟨hb2, rfl⟩; have oz2 := hb2.size; (try simp at oz2))
      | (go_at_call 49; with_reducible refine (areFrom_one 0 520 l _ _ ?_ _ B3.out).mono ?_; (focus (simp; done)); rintro e w' ⟨rfl, rfl⟩)
      | (go_at_call 65; with_reducible refine (weeksOf_any i o l hh _).mono ?_; rintro e w' ⟨rfl, rfl⟩))
    go_ret2
    exact ⟨(by repeat (first | with_reducible exact Below.refl _ _ | with_reducible assumption | with_reducible refine Below.drew ?_ | with_reducible refine Below.drewN ?_ _ | with_reducible refine Below.alloc2 ?_ _ | with_reducible refine Below.alloc ?_ (by first | omega | (simp <;> omega)) _ | with_reducible refine Below.setCell ?_ (by first | omega | (simp <;> omega)) _ | with_reducible refine Below.step2 (by with_reducible assumption) ?_ | with_reducible refine Below.step (by with_reducible assumption) ?_ (by first | omega | (simp <;> omega)))), rfl⟩
set_option maxHeartbeats 1000000 in
theorem weeks_ok (i o l : Int) (h1 : dayB i = true) (h2 : dayB o = true) (h3 : inR 0 520 l = true) (h : ¬ o < i) (w : World) :
    Calls Try.prog 30 #[.int .i64 i, .int .i64 o, .int .i64 l] w fun e w' => Below w.heap.size w w' ∧ e = .returned (.tuple #[.int .i64 (wks i o l), .int .i64 0]) := by
  have hh : 0 ≤ i ∧ o ≤ 20000 ∧ i ≤ o := ⟨(dayB_iff.1 h1).1, (dayB_iff.1 h2).2, by omega⟩
  have B1 := Lib.hid h1
  have B2 := Lib.hid h2
  have B3 := Lib.hid h3
  clear h1 h2 h3
  · go_enter Try.func30, Try.ntmps30
    go_wp2_with (first
      | (go_at_call 64; with_reducible refine (isDay_b B1.out _).mono ?_; rintro e w1 ⟨hb1, rfl⟩; have oz1 := hb1.size; (try simp at oz1))
      | (go_at_call 64; with_reducible refine (isDay_b B2.out _).mono ?_; rintro e w2 ⟨hb2, rfl⟩; have oz2 := hb2.size; (try simp at oz2))
      | (go_at_call 49; with_reducible refine (areFrom_one 0 520 l _ _ ?_ _ B3.out).mono ?_; (focus (simp; done)); rintro e w' ⟨rfl, rfl⟩)
      | (go_at_call 65; with_reducible refine (weeksOf_any i o l hh _).mono ?_; rintro e w' ⟨rfl, rfl⟩))
    go_ret2
    exact ⟨(by repeat (first | with_reducible exact Below.refl _ _ | with_reducible assumption | with_reducible refine Below.drew ?_ | with_reducible refine Below.drewN ?_ _ | with_reducible refine Below.alloc2 ?_ _ | with_reducible refine Below.alloc ?_ (by first | omega | (simp <;> omega)) _ | with_reducible refine Below.setCell ?_ (by first | omega | (simp <;> omega)) _ | with_reducible refine Below.step2 (by with_reducible assumption) ?_ | with_reducible refine Below.step (by with_reducible assumption) ?_ (by first | omega | (simp <;> omega)))), rfl⟩

end Go.Proofs.Ytbeijeblbchglaa
