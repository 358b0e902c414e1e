/- Chapter 6, walks: Anchored of both sides; equal lists of numbers. -/
import Derived.Test.YtfnphhmcbdoojaaGreatDoorRefShares6
namespace Go.Proofs.YtfnphhmcbdoojaaGreatDoor
open Go.RowKit

def heavy (x : Int) : Bool := decide (5000 < x)
set_option maxHeartbeats 400000 in
theorem heavy_any (x : Int) (g : Nat) (w : World) (hg : w.cell? ⟨g, 4, none⟩ = some (.int .i64 5000)) :
    Calls Tryz.prog 71 #[.int .i64 x, .pointer (some ⟨g, 0, none⟩)] w fun e w' => w = w' ∧ e = .returned (.bool (heavy x)) := by
  go_enter Tryz.func71, Tryz.ntmps71
  go_wp2
  go_ret
  exact ⟨rfl, ret_bool (by simp [heavy])⟩
set_option maxHeartbeats 1000000 in
theorem index_heavy (A : Option Addr) (n c B : Nat) (l : List Int) (g : Nat) (w : World) (h : Nums w B A n c l) (hg : w.cell? ⟨g, 4, none⟩ = some (.int .i64 5000)) :
    Calls Tryz.prog 70 #[.slice A n c, .func (.func 71) #[] #[.pointer (some ⟨g, 0, none⟩)]] w fun e w' => w = w' ∧ e = .returned (.int .i64 (firstI heavy l)) := by
  have hcap := h.cap
  have hmax := h.max
  have hlen := Lib.hid h.len
  have HP : Hid (∀ x : Int, Calls Tryz.prog 71 #[.int .i64 x, .pointer (some ⟨g, 0, none⟩)] w fun e w' => w = w' ∧ e = .returned (.bool (heavy x))) := Lib.hid fun x => heavy_any x g w hg
  clear hg
  go_enter Tryz.func70, Tryz.ntmps70
  go_wp2
  go_loop [5, 8] (fun _ i => ∃ k : Nat, k ≤ n ∧ i = .int .i64 k ∧ Hid ((l.take k).any heavy = false)) (fun _ i => n - (intOf i).toNat)
  case atStart => exact ⟨0, Nat.zero_le _, rfl, by exact Lib.hid rfl⟩
  case round =>
    obtain ⟨k, hk, rfl, hall⟩ := hrel
    by_cases hlt : k < n
    · obtain ⟨b, o, x, rfl, hb, hx, hc⟩ := h.at_ hlt
      have HX := Lib.hid hx
      clear hx
      rcases hpx : heavy x
      · have HPX := Lib.hid hpx
        clear hpx
        go_wp2_with (go_at_call 71; refine (HP.out x).mono ?_; rintro e w' ⟨rfl, rfl⟩; rw [HPX.out])
        go_round
        case rel => exact ⟨k + 1, by omega, by go_num, Lib.hid (any_snoc HX.out hall.out HPX.out)⟩
        case measure => simp [intOf]; omega
      · have HPX := Lib.hid hpx
        clear hpx
        go_wp2_with (go_at_call 71; refine (HP.out x).mono ?_; rintro e w' ⟨rfl, rfl⟩; rw [HPX.out])
        go_ret
        exact ⟨rfl, ret_int (firstI_at HX.out hall.out HPX.out).symm⟩
    · go_wp2
      go_ret
      refine ⟨rfl, ret_int ?_⟩
      have := hall.out
      rw [List.take_of_length_le (by rw [hlen.out]; omega)] at this
      exact (firstI_none this).symm

set_option maxHeartbeats 1000000 in
theorem ints_any (A A2 : Option Addr) (n c c2 : Nat) (l : List Int) (w : World) (h : Nums w w.heap.size A n c l) (h2 : Nums w w.heap.size A2 n c2 l) :
    Calls Tryz.prog 31 #[.slice A n c, .slice A2 n c2] w fun e w' => Below w.heap.size w w' ∧ e = .returned (.bool true) := by
  have hcap := h.cap
  have hmax := h.max
  have hcap2 := h2.cap
  have hmax2 := h2.max
  have H1 : Hid (∀ w', Below w.heap.size w w' → Nums w' w.heap.size A n c l) := fun w' hb => h.below hb (Nat.le_refl _) (Nat.le_refl _)
  have H2 : Hid (∀ w', Below w.heap.size w w' → Nums w' w.heap.size A2 n c2 l) := fun w' hb => h2.below hb (Nat.le_refl _) (Nat.le_refl _)
  clear h h2
  go_enter Tryz.func31, Tryz.ntmps31
  go_wp2
  go_loopw [5] (fun i wr => ∃ k : Nat, k ≤ n ∧ i = .int .i64 k ∧ Below w.heap.size w wr) (fun i _ => n - (intOf i).toNat)
  case atStart => exact ⟨0, Nat.zero_le _, rfl, Below.refl _ _⟩
  case round =>
    obtain ⟨k, hk, rfl, hb⟩ := hrel
    by_cases hlt : k < n
    · obtain ⟨b, o, x, rfl, hbb, hx, c0⟩ := (H1.out _ hb).at_ hlt
      obtain ⟨b2, o2, x2, rfl, hbb2, hx2, d0⟩ := (H2.out _ hb).at_ hlt
      rw [hx] at hx2
      obtain rfl : x = x2 := by simpa using hx2
      have HB := Lib.hid hb
      have z1 : (0 : Int) ≤ (k : Int) := by omega
      have z2 : (k : Int) < (n : Int) := by omega
      clear hb hx hx2
      go_wp2
      go_quiet (fail)
      go_wp2
      go_roundw
      case rel =>
        have hb0 := HB.out
        exact ⟨k + 1, by omega, by go_num, (by repeat (first | with_reducible exact Below.refl _ _ | with_reducible assumption | with_reducible refine Below.drew ?_ | with_reducible refine Below.drewN ?_ _ | with_reducible refine Below.alloc2 ?_ _ | with_reducible refine Below.alloc ?_ (by first | omega | (simp <;> omega)) _ | with_reducible refine Below.setCell ?_ (by first | omega | (simp <;> omega)) _ | with_reducible refine Below.step2 (by with_reducible assumption) ?_ | with_reducible refine Below.step (by with_reducible assumption) ?_ (by first | omega | (simp <;> omega))))⟩
      case measure => simp [intOf]; omega
    · have HB := Lib.hid hb
      clear hb
      go_wp2
      go_ret
      exact ⟨HB.out, rfl⟩

set_option maxHeartbeats 400000 in
theorem rule_any (w : World) : Calls Tryz.prog 35 #[] w fun e w' => Below w.heap.size w w' ∧ e = .returned (.agg #[.int .i64 4000, .int .i64 2000, .int .i64 1, .int .i64 100, .int .i64 5000]) := by
  go_enter Tryz.func35, Tryz.ntmps35
  go_wp2
  refine bodyPost_ret (v := .agg #[.int .i64 4000, .int .i64 2000, .int .i64 1, .int .i64 100, .int .i64 5000]) (by simp [results, Tryz.results35, go_sem]) rfl ?_
  exact ⟨(by repeat (first | with_reducible exact Below.refl _ _ | with_reducible assumption | with_reducible refine Below.drew ?_ | with_reducible refine Below.drewN ?_ _ | with_reducible refine Below.alloc2 ?_ _ | with_reducible refine Below.alloc ?_ (by first | omega | (simp <;> omega)) _ | with_reducible refine Below.setCell ?_ (by first | omega | (simp <;> omega)) _ | with_reducible refine Below.step2 (by with_reducible assumption) ?_ | with_reducible refine Below.step (by with_reducible assumption) ?_ (by first | omega | (simp <;> omega)))), rfl⟩
set_option maxHeartbeats 2000000 in
theorem rulesError_any (f : Int) (A A2 : Option Addr) (n c m c2 : Nat) (G : Int) (w : World) (c1 : ∀ w', Below w.heap.size w w' → Calls Tryz.prog 13 #[.agg #[.int .i64 f, .slice A n c, .slice A2 m c2]] w' fun e w'' => Below w'.heap.size w' w'' ∧ e = .returned (.int .i64 G)) :
    Calls Tryz.prog 60 #[.agg #[.int .i64 f, .slice A n c, .slice A2 m c2], .agg #[.int .i64 4000, .int .i64 2000, .int .i64 1, .int .i64 100, .int .i64 5000]] w fun e w' => Below w.heap.size w w' ∧ e = .returned (.int .i64 G) := by
  have C1 := Lib.hid c1
  have C2 : Hid (∀ w', Calls Tryz.prog 15 #[.agg #[.int .i64 4000, .int .i64 2000, .int .i64 1, .int .i64 100, .int .i64 5000]] w' fun e w'' => Below w'.heap.size w' w'' ∧ e = .returned (.int .i64 0)) := Lib.hid fun w' => checkRule_any 4000 2000 1 100 5000 w'
  clear c1
  by_cases hg : G = 0
  · subst hg
    (
        go_enter Tryz.func60, Tryz.ntmps60
        go_wp2_with (first
            | (go_at_call 13; with_reducible refine (C1.out _ ?_).mono ?_; (focus (exact (by repeat (first | with_reducible exact Below.refl _ _ | with_reducible assumption | with_reducible refine Below.drew ?_ | with_reducible refine Below.drewN ?_ _ | with_reducible refine Below.alloc2 ?_ _ | with_reducible refine Below.alloc ?_ (by first | omega | (simp <;> omega)) _ | with_reducible refine Below.setCell ?_ (by first | omega | (simp <;> omega)) _ | with_reducible refine Below.step2 (by with_reducible assumption) ?_ | with_reducible refine Below.step (by with_reducible assumption) ?_ (by first | omega | (simp <;> omega)))))); rintro e w1 ⟨hb1, rfl⟩; have kr : Bk w1 (w.heap.size + 1) 26 #[.int .i64 4000, .int .i64 2000, .int .i64 1, .int .i64 100, .int .i64 5000] := (by repeat (first | with_reducible assumption | with_reducible exact Bk.at_ (by first | (simp; done) | omega) | with_reducible refine Bk.alloc ?_ _ | with_reducible refine Bk.drew ?_ | with_reducible refine Bk.drewN ?_ _ | with_reducible refine Bk.step (by with_reducible assumption) ?_ (by first | omega | (simp <;> omega)))); obtain ⟨r0, r1, r2, r3, r4⟩ := kr.five)
            | (go_at_call 15; with_reducible refine (C2.out _).mono ?_; rintro e w1 ⟨hb1, rfl⟩))
        go_ret
        exact ⟨(by repeat (first | with_reducible exact Below.refl _ _ | with_reducible assumption | with_reducible refine Below.drew ?_ | with_reducible refine Below.drewN ?_ _ | with_reducible refine Below.alloc2 ?_ _ | with_reducible refine Below.alloc ?_ (by first | omega | (simp <;> omega)) _ | with_reducible refine Below.setCell ?_ (by first | omega | (simp <;> omega)) _ | with_reducible refine Below.step2 (by with_reducible assumption) ?_ | with_reducible refine Below.step (by with_reducible assumption) ?_ (by first | omega | (simp <;> omega)))), rfl⟩)
  · have hgb : (G != 0) = true := by simpa using hg
    clear hg
    (
        go_enter Tryz.func60, Tryz.ntmps60
        go_wp2_with (first
            | (go_at_call 13; with_reducible refine (C1.out _ ?_).mono ?_; (focus (exact (by repeat (first | with_reducible exact Below.refl _ _ | with_reducible assumption | with_reducible refine Below.drew ?_ | with_reducible refine Below.drewN ?_ _ | with_reducible refine Below.alloc2 ?_ _ | with_reducible refine Below.alloc ?_ (by first | omega | (simp <;> omega)) _ | with_reducible refine Below.setCell ?_ (by first | omega | (simp <;> omega)) _ | with_reducible refine Below.step2 (by with_reducible assumption) ?_ | with_reducible refine Below.step (by with_reducible assumption) ?_ (by first | omega | (simp <;> omega)))))); rintro e w1 ⟨hb1, rfl⟩; have kr : Bk w1 (w.heap.size + 1) 26 #[.int .i64 4000, .int .i64 2000, .int .i64 1, .int .i64 100, .int .i64 5000] := (by repeat (first | with_reducible assumption | with_reducible exact Bk.at_ (by first | (simp; done) | omega) | with_reducible refine Bk.alloc ?_ _ | with_reducible refine Bk.drew ?_ | with_reducible refine Bk.drewN ?_ _ | with_reducible refine Bk.step (by with_reducible assumption) ?_ (by first | omega | (simp <;> omega)))); obtain ⟨r0, r1, r2, r3, r4⟩ := kr.five)
            | (go_at_call 15; with_reducible refine (C2.out _).mono ?_; rintro e w1 ⟨hb1, rfl⟩))
        go_ret
        exact ⟨(by repeat (first | with_reducible exact Below.refl _ _ | with_reducible assumption | with_reducible refine Below.drew ?_ | with_reducible refine Below.drewN ?_ _ | with_reducible refine Below.alloc2 ?_ _ | with_reducible refine Below.alloc ?_ (by first | omega | (simp <;> omega)) _ | with_reducible refine Below.setCell ?_ (by first | omega | (simp <;> omega)) _ | with_reducible refine Below.step2 (by with_reducible assumption) ?_ | with_reducible refine Below.step (by with_reducible assumption) ?_ (by first | omega | (simp <;> omega)))), rfl⟩)

set_option maxHeartbeats 2000000 in
theorem anchored_bad (f : Int) (A A2 T V : Option Addr) (n c m c2 k0 ct wn cw : Nat) (G WE : Int) (w : World) (c1 : ∀ w', Below w.heap.size w w' → Calls Tryz.prog 13 #[.agg #[.int .i64 f, .slice A n c, .slice A2 m c2]] w' fun e w'' => Below w'.heap.size w' w'' ∧ e = .returned (.int .i64 G))
    (cb : ∀ w', Below w.heap.size w w' → Calls Tryz.prog 33 #[.agg #[.int .i64 f, .slice A n c, .slice A2 m c2], .slice T k0 ct, .slice V wn cw] w' fun e w'' => Below w'.heap.size w' w'' ∧ e = .returned (.tuple #[.slice none 0 0, .int .i64 WE]))
    (hG : G ≠ 0 → WE = G) (h : WE ≠ 0) :
    Calls Tryz.prog 34 #[.agg #[.int .i64 f, .slice A n c, .slice A2 m c2], .agg #[.int .i64 4000, .int .i64 2000, .int .i64 1, .int .i64 100, .int .i64 5000], .slice T k0 ct, .slice V wn cw] w fun e w' => Below w.heap.size w w' ∧ e = .returned (.tuple #[.int .i64 0, .int .i64 WE]) := by
  have CR : Hid (∀ w', Below w.heap.size w w' → Calls Tryz.prog 60 #[.agg #[.int .i64 f, .slice A n c, .slice A2 m c2], .agg #[.int .i64 4000, .int .i64 2000, .int .i64 1, .int .i64 100, .int .i64 5000]] w' fun e w'' => Below w'.heap.size w' w'' ∧ e = .returned (.int .i64 G)) := Lib.hid fun w' hb => rulesError_any f A A2 n c m c2 G w' fun w'' hb' => c1 w'' (hb.trans (hb'.mono hb.size))
  have CB := Lib.hid cb
  have hWb : (WE != 0) = true := by simpa using h
  clear c1 cb
  by_cases hg : G = 0
  · subst hg
    clear hG h
    (
        go_enter Tryz.func34, Tryz.ntmps34
        go_wp2_with (first
            | (go_at_call 60; with_reducible refine (CR.out _ ?_).mono ?_; (focus (exact (by repeat (first | with_reducible exact Below.refl _ _ | with_reducible assumption | with_reducible refine Below.drew ?_ | with_reducible refine Below.drewN ?_ _ | with_reducible refine Below.alloc2 ?_ _ | with_reducible refine Below.alloc ?_ (by first | omega | (simp <;> omega)) _ | with_reducible refine Below.setCell ?_ (by first | omega | (simp <;> omega)) _ | with_reducible refine Below.step2 (by with_reducible assumption) ?_ | with_reducible refine Below.step (by with_reducible assumption) ?_ (by first | omega | (simp <;> omega)))))); rintro e w1 ⟨hb1, rfl⟩; have kg : Bk w1 w.heap.size 24 #[.int .i64 f, .slice A n c, .slice A2 m c2] := (by repeat (first | with_reducible assumption | with_reducible exact Bk.at_ (by first | (simp; done) | omega) | with_reducible refine Bk.alloc ?_ _ | with_reducible refine Bk.drew ?_ | with_reducible refine Bk.drewN ?_ _ | with_reducible refine Bk.step (by with_reducible assumption) ?_ (by first | omega | (simp <;> omega)))); have kr : Bk w1 (w.heap.size + 1) 26 #[.int .i64 4000, .int .i64 2000, .int .i64 1, .int .i64 100, .int .i64 5000] := (by repeat (first | with_reducible assumption | with_reducible exact Bk.at_ (by first | (simp; done) | omega) | with_reducible refine Bk.alloc ?_ _ | with_reducible refine Bk.drew ?_ | with_reducible refine Bk.drewN ?_ _ | with_reducible refine Bk.step (by with_reducible assumption) ?_ (by first | omega | (simp <;> omega)))); obtain ⟨⟨g0, g1, g2⟩, -⟩ := kg.three; obtain ⟨r0, r1, r2, r3, r4⟩ := kr.five; have oz1 := hb1.size; (try simp at oz1))
            | (go_at_call 33; with_reducible refine (CB.out _ ?_).mono ?_; (focus (exact (by repeat (first | with_reducible exact Below.refl _ _ | with_reducible assumption | with_reducible refine Below.drew ?_ | with_reducible refine Below.drewN ?_ _ | with_reducible refine Below.alloc2 ?_ _ | with_reducible refine Below.alloc ?_ (by first | omega | (simp <;> omega)) _ | with_reducible refine Below.setCell ?_ (by first | omega | (simp <;> omega)) _ | with_reducible refine Below.step2 (by with_reducible assumption) ?_ | with_reducible refine Below.step (by with_reducible assumption) ?_ (by first | omega | (simp <;> omega)))))); rintro e w1 ⟨hb1, rfl⟩; have kg : Bk w1 w.heap.size 24 #[.int .i64 f, .slice A n c, .slice A2 m c2] := (by repeat (first | with_reducible assumption | with_reducible exact Bk.at_ (by first | (simp; done) | omega) | with_reducible refine Bk.alloc ?_ _ | with_reducible refine Bk.drew ?_ | with_reducible refine Bk.drewN ?_ _ | with_reducible refine Bk.step (by with_reducible assumption) ?_ (by first | omega | (simp <;> omega)))); have kr : Bk w1 (w.heap.size + 1) 26 #[.int .i64 4000, .int .i64 2000, .int .i64 1, .int .i64 100, .int .i64 5000] := (by repeat (first | with_reducible assumption | with_reducible exact Bk.at_ (by first | (simp; done) | omega) | with_reducible refine Bk.alloc ?_ _ | with_reducible refine Bk.drew ?_ | with_reducible refine Bk.drewN ?_ _ | with_reducible refine Bk.step (by with_reducible assumption) ?_ (by first | omega | (simp <;> omega)))); obtain ⟨⟨g0, g1, g2⟩, -⟩ := kg.three; obtain ⟨r0, r1, r2, r3, r4⟩ := kr.five; have oz1 := hb1.size; (try simp at oz1)))
        refine bodyPost_ret (results_tmp2 rfl _ _ _) rfl ?_
        exact ⟨(by repeat (first | with_reducible exact Below.refl _ _ | with_reducible assumption | with_reducible refine Below.drew ?_ | with_reducible refine Below.drewN ?_ _ | with_reducible refine Below.alloc2 ?_ _ | with_reducible refine Below.alloc ?_ (by first | omega | (simp <;> omega)) _ | with_reducible refine Below.setCell ?_ (by first | omega | (simp <;> omega)) _ | with_reducible refine Below.step2 (by with_reducible assumption) ?_ | with_reducible refine Below.step (by with_reducible assumption) ?_ (by first | omega | (simp <;> omega)))), rfl⟩)
  · obtain rfl := hG hg
    clear hG h hg
    (
        go_enter Tryz.func34, Tryz.ntmps34
        go_wp2_with (first
            | (go_at_call 60; with_reducible refine (CR.out _ ?_).mono ?_; (focus (exact (by repeat (first | with_reducible exact Below.refl _ _ | with_reducible assumption | with_reducible refine Below.drew ?_ | with_reducible refine Below.drewN ?_ _ | with_reducible refine Below.alloc2 ?_ _ | with_reducible refine Below.alloc ?_ (by first | omega | (simp <;> omega)) _ | with_reducible refine Below.setCell ?_ (by first | omega | (simp <;> omega)) _ | with_reducible refine Below.step2 (by with_reducible assumption) ?_ | with_reducible refine Below.step (by with_reducible assumption) ?_ (by first | omega | (simp <;> omega)))))); rintro e w1 ⟨hb1, rfl⟩; have kg : Bk w1 w.heap.size 24 #[.int .i64 f, .slice A n c, .slice A2 m c2] := (by repeat (first | with_reducible assumption | with_reducible exact Bk.at_ (by first | (simp; done) | omega) | with_reducible refine Bk.alloc ?_ _ | with_reducible refine Bk.drew ?_ | with_reducible refine Bk.drewN ?_ _ | with_reducible refine Bk.step (by with_reducible assumption) ?_ (by first | omega | (simp <;> omega)))); have kr : Bk w1 (w.heap.size + 1) 26 #[.int .i64 4000, .int .i64 2000, .int .i64 1, .int .i64 100, .int .i64 5000] := (by repeat (first | with_reducible assumption | with_reducible exact Bk.at_ (by first | (simp; done) | omega) | with_reducible refine Bk.alloc ?_ _ | with_reducible refine Bk.drew ?_ | with_reducible refine Bk.drewN ?_ _ | with_reducible refine Bk.step (by with_reducible assumption) ?_ (by first | omega | (simp <;> omega)))); obtain ⟨⟨g0, g1, g2⟩, -⟩ := kg.three; obtain ⟨r0, r1, r2, r3, r4⟩ := kr.five; have oz1 := hb1.size; (try simp at oz1))
            | (go_at_call 33; with_reducible refine (CB.out _ ?_).mono ?_; (focus (exact (by repeat (first | with_reducible exact Below.refl _ _ | with_reducible assumption | with_reducible refine Below.drew ?_ | with_reducible refine Below.drewN ?_ _ | with_reducible refine Below.alloc2 ?_ _ | with_reducible refine Below.alloc ?_ (by first | omega | (simp <;> omega)) _ | with_reducible refine Below.setCell ?_ (by first | omega | (simp <;> omega)) _ | with_reducible refine Below.step2 (by with_reducible assumption) ?_ | with_reducible refine Below.step (by with_reducible assumption) ?_ (by first | omega | (simp <;> omega)))))); rintro e w1 ⟨hb1, rfl⟩; have kg : Bk w1 w.heap.size 24 #[.int .i64 f, .slice A n c, .slice A2 m c2] := (by repeat (first | with_reducible assumption | with_reducible exact Bk.at_ (by first | (simp; done) | omega) | with_reducible refine Bk.alloc ?_ _ | with_reducible refine Bk.drew ?_ | with_reducible refine Bk.drewN ?_ _ | with_reducible refine Bk.step (by with_reducible assumption) ?_ (by first | omega | (simp <;> omega)))); have kr : Bk w1 (w.heap.size + 1) 26 #[.int .i64 4000, .int .i64 2000, .int .i64 1, .int .i64 100, .int .i64 5000] := (by repeat (first | with_reducible assumption | with_reducible exact Bk.at_ (by first | (simp; done) | omega) | with_reducible refine Bk.alloc ?_ _ | with_reducible refine Bk.drew ?_ | with_reducible refine Bk.drewN ?_ _ | with_reducible refine Bk.step (by with_reducible assumption) ?_ (by first | omega | (simp <;> omega)))); obtain ⟨⟨g0, g1, g2⟩, -⟩ := kg.three; obtain ⟨r0, r1, r2, r3, r4⟩ := kr.five; have oz1 := hb1.size; (try simp at oz1)))
        refine bodyPost_ret (results_tmp2 rfl _ _ _) rfl ?_
        exact ⟨(by repeat (first | with_reducible exact Below.refl _ _ | with_reducible assumption | with_reducible refine Below.drew ?_ | with_reducible refine Below.drewN ?_ _ | with_reducible refine Below.alloc2 ?_ _ | with_reducible refine Below.alloc ?_ (by first | omega | (simp <;> omega)) _ | with_reducible refine Below.setCell ?_ (by first | omega | (simp <;> omega)) _ | with_reducible refine Below.step2 (by with_reducible assumption) ?_ | with_reducible refine Below.step (by with_reducible assumption) ?_ (by first | omega | (simp <;> omega)))), rfl⟩)

set_option maxHeartbeats 2000000 in
theorem anchored_ok (f : Int) (A A2 T V : Option Addr) (n c m c2 k0 ct wn cw : Nat) (S : List Int) (w : World)
    (c1 : ∀ w', Below w.heap.size w w' → Calls Tryz.prog 13 #[.agg #[.int .i64 f, .slice A n c, .slice A2 m c2]] w' fun e w'' => Below w'.heap.size w' w'' ∧ e = .returned (.int .i64 0))
    (cs : ∀ w', Below w.heap.size w w' → Calls Tryz.prog 33 #[.agg #[.int .i64 f, .slice A n c, .slice A2 m c2], .slice T k0 ct, .slice V wn cw] w' fun e w'' => Below w'.heap.size w' w'' ∧ ∃ g, e = .returned (.tuple #[.slice (some ⟨g, 0, none⟩) k0 k0, .int .i64 0]) ∧ Nums w'' w''.heap.size (some ⟨g, 0, none⟩) k0 k0 S) :
    Calls Tryz.prog 34 #[.agg #[.int .i64 f, .slice A n c, .slice A2 m c2], .agg #[.int .i64 4000, .int .i64 2000, .int .i64 1, .int .i64 100, .int .i64 5000], .slice T k0 ct, .slice V wn cw] w fun e w' => Below w.heap.size w w' ∧ e = .returned (.tuple #[.int .i64 (firstI heavy S), .int .i64 0]) := by
  have CR : Hid (∀ w', Below w.heap.size w w' → Calls Tryz.prog 60 #[.agg #[.int .i64 f, .slice A n c, .slice A2 m c2], .agg #[.int .i64 4000, .int .i64 2000, .int .i64 1, .int .i64 100, .int .i64 5000]] w' fun e w'' => Below w'.heap.size w' w'' ∧ e = .returned (.int .i64 0)) := Lib.hid fun w' hb => rulesError_any f A A2 n c m c2 0 w' fun w'' hb' => c1 w'' (hb.trans (hb'.mono hb.size))
  have CS := Lib.hid cs
  clear c1 cs
  go_enter Tryz.func34, Tryz.ntmps34
  go_wp2_with (first
        | (go_at_call 60; with_reducible refine (CR.out _ ?_).mono ?_; (focus (exact (by repeat (first | with_reducible exact Below.refl _ _ | with_reducible assumption | with_reducible refine Below.drew ?_ | with_reducible refine Below.drewN ?_ _ | with_reducible refine Below.alloc2 ?_ _ | with_reducible refine Below.alloc ?_ (by first | omega | (simp <;> omega)) _ | with_reducible refine Below.setCell ?_ (by first | omega | (simp <;> omega)) _ | with_reducible refine Below.step2 (by with_reducible assumption) ?_ | with_reducible refine Below.step (by with_reducible assumption) ?_ (by first | omega | (simp <;> omega)))))); rintro e w1 ⟨hb1, rfl⟩; have kg : Bk w1 w.heap.size 24 #[.int .i64 f, .slice A n c, .slice A2 m c2] := (by repeat (first | with_reducible assumption | with_reducible exact Bk.at_ (by first | (simp; done) | omega) | with_reducible refine Bk.alloc ?_ _ | with_reducible refine Bk.drew ?_ | with_reducible refine Bk.drewN ?_ _ | with_reducible refine Bk.step (by with_reducible assumption) ?_ (by first | omega | (simp <;> omega)))); have kr : Bk w1 (w.heap.size + 1) 26 #[.int .i64 4000, .int .i64 2000, .int .i64 1, .int .i64 100, .int .i64 5000] := (by repeat (first | with_reducible assumption | with_reducible exact Bk.at_ (by first | (simp; done) | omega) | with_reducible refine Bk.alloc ?_ _ | with_reducible refine Bk.drew ?_ | with_reducible refine Bk.drewN ?_ _ | with_reducible refine Bk.step (by with_reducible assumption) ?_ (by first | omega | (simp <;> omega)))); obtain ⟨⟨g0, g1, g2⟩, -⟩ := kg.three; obtain ⟨r0, r1, r2, r3, r4⟩ := kr.five; have oz1 := hb1.size; (try simp at oz1))
        | (go_at_call 33; with_reducible refine (CS.out _ ?_).mono ?_; (focus (exact (by repeat (first | with_reducible exact Below.refl _ _ | with_reducible assumption | with_reducible refine Below.drew ?_ | with_reducible refine Below.drewN ?_ _ | with_reducible refine Below.alloc2 ?_ _ | with_reducible refine Below.alloc ?_ (by first | omega | (simp <;> omega)) _ | with_reducible refine Below.setCell ?_ (by first | omega | (simp <;> omega)) _ | with_reducible refine Below.step2 (by with_reducible assumption) ?_ | with_reducible refine Below.step (by with_reducible assumption) ?_ (by first | omega | (simp <;> omega)))))); rintro e w1 ⟨hb1, g, rfl, hN⟩; have HN := Lib.hid hN; clear hN; have kg : Bk w1 w.heap.size 24 #[.int .i64 f, .slice A n c, .slice A2 m c2] := (by repeat (first | with_reducible assumption | with_reducible exact Bk.at_ (by first | (simp; done) | omega) | with_reducible refine Bk.alloc ?_ _ | with_reducible refine Bk.drew ?_ | with_reducible refine Bk.drewN ?_ _ | with_reducible refine Bk.step (by with_reducible assumption) ?_ (by first | omega | (simp <;> omega)))); have kr : Bk w1 (w.heap.size + 1) 26 #[.int .i64 4000, .int .i64 2000, .int .i64 1, .int .i64 100, .int .i64 5000] := (by repeat (first | with_reducible assumption | with_reducible exact Bk.at_ (by first | (simp; done) | omega) | with_reducible refine Bk.alloc ?_ _ | with_reducible refine Bk.drew ?_ | with_reducible refine Bk.drewN ?_ _ | with_reducible refine Bk.step (by with_reducible assumption) ?_ (by first | omega | (simp <;> omega)))); obtain ⟨⟨g0, g1, g2⟩, -⟩ := kg.three; obtain ⟨r0, r1, r2, r3, r4⟩ := kr.five; have oz1 := hb1.size; (try simp at oz1))
        | (go_at_call 70; refine (index_heavy _ _ _ _ S (w.heap.size + 1) _ HN.out r4).mono ?_; rintro e w' ⟨rfl, rfl⟩))
  refine bodyPost_ret (results_tmp2 rfl _ _ _) rfl ?_
  exact ⟨(by repeat (first | with_reducible exact Below.refl _ _ | with_reducible assumption | with_reducible refine Below.drew ?_ | with_reducible refine Below.drewN ?_ _ | with_reducible refine Below.alloc2 ?_ _ | with_reducible refine Below.alloc ?_ (by first | omega | (simp <;> omega)) _ | with_reducible refine Below.setCell ?_ (by first | omega | (simp <;> omega)) _ | with_reducible refine Below.step2 (by with_reducible assumption) ?_ | with_reducible refine Below.step (by with_reducible assumption) ?_ (by first | omega | (simp <;> omega)))), rfl⟩

set_option maxHeartbeats 4000000 in
theorem refAnchored_any (f : Int) (A A2 T V : Option Addr) (n c m c2 k0 ct wn cw : Nat) (S : List Int) (w : World) (hk : k0 ≤ 1800)
    (cs : ∀ w', Below w.heap.size w w' → Calls Tryz.prog 37 #[.agg #[.int .i64 f, .slice A n c, .slice A2 m c2], .slice T k0 ct, .slice V wn cw] w' fun e w'' => Below w'.heap.size w' w'' ∧ ∃ g, e = .returned (.slice (some ⟨g, 0, none⟩) k0 k0) ∧ Nums w'' w''.heap.size (some ⟨g, 0, none⟩) k0 k0 S) :
    Calls Tryz.prog 38 #[.agg #[.int .i64 f, .slice A n c, .slice A2 m c2], .agg #[.int .i64 4000, .int .i64 2000, .int .i64 1, .int .i64 100, .int .i64 5000], .slice T k0 ct, .slice V wn cw] w fun e w' => Below w.heap.size w w' ∧ e = .returned (.int .i64 (firstI heavy S)) := by
  have CS := Lib.hid cs
  clear cs
  obtain ⟨R, hR⟩ : ∃ R, firstI heavy S = R := ⟨_, rfl⟩
  rw [hR]
  have HR := Lib.hid hR
  clear hR
  go_enter Tryz.func38, Tryz.ntmps38
  go_wp2_with (go_at_call 37; with_reducible refine (CS.out _ ?_).mono ?_; (focus (exact (by repeat (first | with_reducible exact Below.refl _ _ | with_reducible assumption | with_reducible refine Below.drew ?_ | with_reducible refine Below.drewN ?_ _ | with_reducible refine Below.alloc2 ?_ _ | with_reducible refine Below.alloc ?_ (by first | omega | (simp <;> omega)) _ | with_reducible refine Below.setCell ?_ (by first | omega | (simp <;> omega)) _ | with_reducible refine Below.step2 (by with_reducible assumption) ?_ | with_reducible refine Below.step (by with_reducible assumption) ?_ (by first | omega | (simp <;> omega)))))); rintro e wS ⟨hb1, g, rfl, hN⟩; have HN := Lib.hid hN; have HBS : Hid (Below w.heap.size w wS) := Lib.hid (by exact (by repeat (first | with_reducible exact Below.refl _ _ | with_reducible assumption | with_reducible refine Below.drew ?_ | with_reducible refine Below.drewN ?_ _ | with_reducible refine Below.alloc2 ?_ _ | with_reducible refine Below.alloc ?_ (by first | omega | (simp <;> omega)) _ | with_reducible refine Below.setCell ?_ (by first | omega | (simp <;> omega)) _ | with_reducible refine Below.step2 (by with_reducible assumption) ?_ | with_reducible refine Below.step (by with_reducible assumption) ?_ (by first | omega | (simp <;> omega))))); have krS : Bk wS (w.heap.size + 1) 26 #[.int .i64 4000, .int .i64 2000, .int .i64 1, .int .i64 100, .int .i64 5000] := (by repeat (first | with_reducible assumption | with_reducible exact Bk.at_ (by first | (simp; done) | omega) | with_reducible refine Bk.alloc ?_ _ | with_reducible refine Bk.drew ?_ | with_reducible refine Bk.drewN ?_ _ | with_reducible refine Bk.step (by with_reducible assumption) ?_ (by first | omega | (simp <;> omega)))); have HKR := Lib.hid krS; clear hN krS)
  have HL := Lib.hid HN.out.len
  go_loopw [10] (fun i wr => ∃ k : Nat, k ≤ k0 ∧ i = .int .i64 k ∧ Hid ((S.take k).any heavy = false) ∧ Below wS.heap.size wS wr) (fun i _ => k0 - (intOf i).toNat)
  case atStart => exact ⟨0, Nat.zero_le _, rfl, Lib.hid rfl, Below.refl _ _⟩
  case round =>
    obtain ⟨k, hkk, rfl, hall, hb⟩ := hrel
    have HB := Lib.hid hb
    have kr := HKR.out.below hb HKR.out.lt
    obtain ⟨r0, r1, r2, r3, r4⟩ := kr.five
    by_cases hlt : k < k0
    · obtain ⟨b, o, x, hgo, hbb, hx, c0⟩ := (HN.out.below hb (Nat.le_refl _) (Nat.le_refl _)).at_ hlt
      obtain ⟨rfl, rfl⟩ : g = b ∧ 0 = o := by simpa using hgo
      rw [Nat.zero_add] at c0
      have HX := Lib.hid hx
      have z1 : (0 : Int) ≤ (k : Int) := by omega
      have z2 : (k : Int) < (k0 : Int) := by omega
      clear hx hb kr hgo
      by_cases hx5 : 5000 < x
      · have HH : Hid (heavy x = true) := Lib.hid (by simp [heavy, hx5])
        go_wp2
        go_quiet (fail)
        go_wp2
        go_ret
        have hb0 := HB.out
        have hb1 := HBS.out
        exact ⟨(by repeat (first | with_reducible exact Below.refl _ _ | with_reducible assumption | with_reducible refine Below.drew ?_ | with_reducible refine Below.drewN ?_ _ | with_reducible refine Below.alloc2 ?_ _ | with_reducible refine Below.alloc ?_ (by first | omega | (simp <;> omega)) _ | with_reducible refine Below.setCell ?_ (by first | omega | (simp <;> omega)) _ | with_reducible refine Below.step2 (by with_reducible assumption) ?_ | with_reducible refine Below.step (by with_reducible assumption) ?_ (by first | omega | (simp <;> omega)))), ret_int (by rw [← HR.out]; exact (firstI_at HX.out hall.out HH.out).symm)⟩
      · have HH : Hid (heavy x = false) := Lib.hid (by simp [heavy]; omega)
        go_wp2
        go_quiet (fail)
        go_wp2
        go_roundw
        case rel =>
          have hb0 := HB.out
          exact ⟨k + 1, by omega, by go_num, Lib.hid (any_snoc HX.out hall.out HH.out), (by repeat (first | with_reducible exact Below.refl _ _ | with_reducible assumption | with_reducible refine Below.drew ?_ | with_reducible refine Below.drewN ?_ _ | with_reducible refine Below.alloc2 ?_ _ | with_reducible refine Below.alloc ?_ (by first | omega | (simp <;> omega)) _ | with_reducible refine Below.setCell ?_ (by first | omega | (simp <;> omega)) _ | with_reducible refine Below.step2 (by with_reducible assumption) ?_ | with_reducible refine Below.step (by with_reducible assumption) ?_ (by first | omega | (simp <;> omega))))⟩
        case measure => simp [intOf]; omega
    · have hn : R = -1 := by
        rw [← HR.out]
        have := hall.out
        rw [List.take_of_length_le (by rw [HL.out]; omega)] at this
        exact firstI_none this
      have HRN := Lib.hid hn
      clear hb kr hn
      go_wp2
      go_ret
      have hb0 := HB.out
      have hb1 := HBS.out
      exact ⟨(by repeat (first | with_reducible exact Below.refl _ _ | with_reducible assumption | with_reducible refine Below.drew ?_ | with_reducible refine Below.drewN ?_ _ | with_reducible refine Below.alloc2 ?_ _ | with_reducible refine Below.alloc ?_ (by first | omega | (simp <;> omega)) _ | with_reducible refine Below.setCell ?_ (by first | omega | (simp <;> omega)) _ | with_reducible refine Below.step2 (by with_reducible assumption) ?_ | with_reducible refine Below.step (by with_reducible assumption) ?_ (by first | omega | (simp <;> omega)))), ret_int HRN.out.symm⟩

end Go.Proofs.YtfnphhmcbdoojaaGreatDoor
