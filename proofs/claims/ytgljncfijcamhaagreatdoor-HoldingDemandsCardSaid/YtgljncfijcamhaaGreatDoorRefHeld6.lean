/- Chapter 6, walks: the reference's Held; SameDemands. -/
import Derived.Test.YtgljncfijcamhaaGreatDoorHeld6
namespace Go.Proofs.YtgljncfijcamhaaGreatDoor
open Go.RowKit

set_option maxRecDepth 100000 in
set_option maxHeartbeats 8000000 in
theorem refHeld_any (f : Int) (A A2 : Option Addr) (n c m c2 : Nat) (ev fr sk ma st : Int) (T : Option Addr) (k0 ct : Nat) (l : List Dem) (w : World)
    (cd : ∀ w', Below w.heap.size w w' → Calls Tryz.prog 15 #[.agg #[.int .i64 f, .slice A n c, .slice A2 m c2], .agg #[.int .i64 ev, .int .i64 fr, .int .i64 sk, .int .i64 ma, .int .i64 st], .slice T k0 ct] w' fun e w'' => Below w'.heap.size w' w'' ∧ ∃ A' c', e = .returned (.slice A' l.length c') ∧ Dems w'' w''.heap.size A' l.length c' l) :
    Calls Tryz.prog 14 #[.agg #[.int .i64 f, .slice A n c, .slice A2 m c2], .agg #[.int .i64 ev, .int .i64 fr, .int .i64 sk, .int .i64 ma, .int .i64 st], .slice T k0 ct] w fun e w' => Below w.heap.size w w' ∧
      ((noPl l = none ∧ e = .returned (.tuple #[.bool true, .agg #[.int .i64 0, .int .i64 0, .slice none 0 0]])) ∨ ∃ d P pc, noPl l = some d ∧ d.pl = [] ∧ e = .returned (.tuple #[.bool false, .agg #[.int .i64 d.st, .int .i64 d.fr, .slice P 0 pc]]) ∧ Nums w' w'.heap.size P 0 pc []) := by
  have CD := Lib.hid cd
  obtain ⟨N, hN⟩ : ∃ N, l.length = N := ⟨_, rfl⟩
  rw [hN] at CD
  have HN := Lib.hid hN
  clear cd hN
  go_enter Tryz.func14, Tryz.ntmps14
  go_wp2_with (go_at_call 15; with_reducible refine (CD.out _ ?_).mono ?_; (focus (exact (by repeat (first | with_reducible exact Below.refl _ _ | with_reducible assumption | with_reducible refine Below.drew ?_ | with_reducible refine Below.drewN ?_ _ | with_reducible refine Below.alloc2 ?_ _ | with_reducible refine Below.alloc ?_ (by first | omega | (simp <;> omega)) _ | with_reducible refine Below.setCell ?_ (by first | omega | (simp <;> omega)) _ | with_reducible refine Below.step2 (by with_reducible assumption) ?_ | with_reducible refine Below.step (by with_reducible assumption) ?_ (by first | omega | (simp <;> omega)))))); rintro e wS ⟨hb1, A', c', rfl, hD⟩; have HDS := Lib.hid hD; have kd : Bk wS (w.heap.size + 2) 35 #[.int .i64 0, .int .i64 0, .slice none 0 0] := (by repeat (first | with_reducible assumption | with_reducible exact Bk.at_ (by first | (simp; done) | omega) | with_reducible refine Bk.alloc ?_ _ | with_reducible refine Bk.drew ?_ | with_reducible refine Bk.drewN ?_ _ | with_reducible refine Bk.step (by with_reducible assumption) ?_ (by first | omega | (simp <;> omega)))); have od := kd.lt; have oz1 := hb1.size; (try simp at oz1); have HKD := Lib.hid kd; have HBS : Hid (Below w.heap.size w wS) := Lib.hid (by exact (by repeat (first | with_reducible exact Below.refl _ _ | with_reducible assumption | with_reducible refine Below.drew ?_ | with_reducible refine Below.drewN ?_ _ | with_reducible refine Below.alloc2 ?_ _ | with_reducible refine Below.alloc ?_ (by first | omega | (simp <;> omega)) _ | with_reducible refine Below.setCell ?_ (by first | omega | (simp <;> omega)) _ | with_reducible refine Below.step2 (by with_reducible assumption) ?_ | with_reducible refine Below.step (by with_reducible assumption) ?_ (by first | omega | (simp <;> omega))))); clear kd hD)
  have hcapS := HDS.out.cap
  have hmaxS := HDS.out.max
  go_loopw [9] (fun x wr => ∃ k : Nat, k ≤ N ∧ x = .int .i64 k ∧ Hid ((l.take k).all (fun d => !decide (d.pl.length = 0)) = true) ∧ Below wS.heap.size wS wr) (fun x _ => N - (intOf x).toNat)
  case atStart => exact ⟨0, Nat.zero_le _, rfl, Lib.hid rfl, Below.refl _ _⟩
  case round =>
    obtain ⟨k, hk, rfl, HALL, hb⟩ := hrel
    have HB := Lib.hid hb
    have ow := hb.size
    have hkd : Bk wr (w.heap.size + 2) 35 #[.int .i64 0, .int .i64 0, .slice none 0 0] := (hb.block _ od).trans HKD.out
    have okd : w.heap.size + 2 < wr.heap.size := by omega
    have okd2 : w.heap.size + 1 + 1 < wr.heap.size := by omega
    have fr0 := hkd.frozen 0
    have fr1 := hkd.frozen 1
    have fr2 := hkd.frozen 2
    obtain ⟨⟨e0, e1, e2⟩, -⟩ := hkd.three
    clear hkd
    by_cases hlt : k < N
    · obtain ⟨b, o, x, P, pc, rfl, hbb, hx, d0, d1, d2, hP⟩ := (HDS.out.below hb (Nat.le_refl _) hb.size).at_ hlt
      have HX := Lib.hid hx
      have HP := Lib.hid hP
      obtain ⟨q, hq⟩ : ∃ q, x.pl.length = q := ⟨_, rfl⟩
      rw [hq] at d2
      have HQ := Lib.hid hq
      have y1 : (0 : Int) ≤ (k : Int) := by omega
      have y2 : (k : Int) < (N : Int) := by omega
      clear hb hx hP hq
      by_cases h0 : q = 0
      · subst h0
        have HR := Lib.hid (noPl_at HX.out HALL.out HQ.out)
        go_wp2
        go_region
        go_wp2
        refine bodyPost_ret (v := .tuple #[.bool false, .agg #[.int .i64 x.st, .int .i64 x.fr, .slice P 0 pc]]) (by simp [results, Tryz.results14, go_sem, e0, e1, e2]) rfl ?_
        have hb0 := HBS.out.trans (HB.out.mono HBS.out.size)
        exact ⟨(by repeat (first | with_reducible exact Below.refl _ _ | with_reducible assumption | with_reducible refine Below.drew ?_ | with_reducible refine Below.drewN ?_ _ | with_reducible refine Below.alloc2 ?_ _ | with_reducible refine Below.alloc ?_ (by first | omega | (simp <;> omega)) _ | with_reducible refine Below.setCell ?_ (by first | omega | (simp <;> omega)) _ | with_reducible refine Below.step2 (by with_reducible assumption) ?_ | with_reducible refine Below.step (by with_reducible assumption) ?_ (by first | omega | (simp <;> omega)))), .inr ⟨x, P, pc, HR.out, List.eq_nil_of_length_eq_zero HQ.out, rfl, ⟨⟨rfl, Nat.zero_le _, HP.out.max, fun h => absurd h (by omega)⟩⟩⟩⟩
      · have hq1 : ((q : Int) == 0) = false := by simp; omega
        have hq2 : (q == 0) = false := by simpa using h0
        have HE := Lib.hid (all_snocD HX.out HALL.out (by simp [HQ.out, h0]))
        go_wp2
        go_roundw
        case rel =>
          have hb0 := HB.out
          exact ⟨k + 1, by omega, by go_num, HE, (by repeat (first | with_reducible exact Below.refl _ _ | with_reducible assumption | with_reducible refine Below.drew ?_ | with_reducible refine Below.drewN ?_ _ | with_reducible refine Below.alloc2 ?_ _ | with_reducible refine Below.alloc ?_ (by first | omega | (simp <;> omega)) _ | with_reducible refine Below.setCell ?_ (by first | omega | (simp <;> omega)) _ | with_reducible refine Below.step2 (by with_reducible assumption) ?_ | with_reducible refine Below.step (by with_reducible assumption) ?_ (by first | omega | (simp <;> omega))))⟩
        case measure => (simp [intOf]; omega)
    · obtain rfl : k = N := by omega
      have HR : Hid (noPl l = none) := Lib.hid (noPl_none (by have := HALL.out; rwa [List.take_of_length_le (by rw [HN.out]; exact Nat.le_refl _)] at this))
      clear hb
      go_wp2
      refine bodyPost_ret (v := .tuple #[.bool true, .agg #[.int .i64 0, .int .i64 0, .slice none 0 0]]) (by simp [results, Tryz.results14, go_sem, e0, e1, e2]) rfl ?_
      have hb0 := HBS.out.trans (HB.out.mono HBS.out.size)
      exact ⟨(by repeat (first | with_reducible exact Below.refl _ _ | with_reducible assumption | with_reducible refine Below.drew ?_ | with_reducible refine Below.drewN ?_ _ | with_reducible refine Below.alloc2 ?_ _ | with_reducible refine Below.alloc ?_ (by first | omega | (simp <;> omega)) _ | with_reducible refine Below.setCell ?_ (by first | omega | (simp <;> omega)) _ | with_reducible refine Below.step2 (by with_reducible assumption) ?_ | with_reducible refine Below.step (by with_reducible assumption) ?_ (by first | omega | (simp <;> omega)))), .inl ⟨HR.out, rfl⟩⟩

set_option maxHeartbeats 1000000 in
theorem ints_eqD (A A2 : Option Addr) (n c c2 : Nat) (l : List Int) (w : World) (h : Nums w w.heap.size A n c l) (h2 : Nums w w.heap.size A2 n c2 l) :
    Calls Tryz.prog 19 #[.slice A n c, .slice A2 n c2] w fun e w' => Below w.heap.size w w' ∧ e = .returned (.bool true) := by
  have hcap := h.cap
  have hmax := h.max
  have hcap2 := h2.cap
  have hmax2 := h2.max
  have H1 : Hid (∀ w', Below w.heap.size w w' → Nums w' w.heap.size A n c l) := fun w' hb => h.below hb (Nat.le_refl _) (Nat.le_refl _)
  have H2 : Hid (∀ w', Below w.heap.size w w' → Nums w' w.heap.size A2 n c2 l) := fun w' hb => h2.below hb (Nat.le_refl _) (Nat.le_refl _)
  clear h h2
  go_enter Tryz.func19, Tryz.ntmps19
  go_wp2
  go_loopw [5] (fun i wr => ∃ k : Nat, k ≤ n ∧ i = .int .i64 k ∧ Below w.heap.size w wr) (fun i _ => n - (intOf i).toNat)
  case atStart => exact ⟨0, Nat.zero_le _, rfl, Below.refl _ _⟩
  case round =>
    obtain ⟨k, hk, rfl, hb⟩ := hrel
    by_cases hlt : k < n
    · obtain ⟨b, o, x, rfl, hbb, hx, c0⟩ := (H1.out _ hb).at_ hlt
      obtain ⟨b2, o2, x2, rfl, hbb2, hx2, d0⟩ := (H2.out _ hb).at_ hlt
      rw [hx] at hx2
      obtain rfl : x = x2 := by simpa using hx2
      have HB := Lib.hid hb
      have z1 : (0 : Int) ≤ (k : Int) := by omega
      have z2 : (k : Int) < (n : Int) := by omega
      clear hb hx hx2
      go_wp2
      go_quiet (fail)
      go_wp2
      go_roundw
      case rel =>
        have hb0 := HB.out
        exact ⟨k + 1, by omega, by go_num, (by repeat (first | with_reducible exact Below.refl _ _ | with_reducible assumption | with_reducible refine Below.drew ?_ | with_reducible refine Below.drewN ?_ _ | with_reducible refine Below.alloc2 ?_ _ | with_reducible refine Below.alloc ?_ (by first | omega | (simp <;> omega)) _ | with_reducible refine Below.setCell ?_ (by first | omega | (simp <;> omega)) _ | with_reducible refine Below.step2 (by with_reducible assumption) ?_ | with_reducible refine Below.step (by with_reducible assumption) ?_ (by first | omega | (simp <;> omega))))⟩
      case measure => simp [intOf]; omega
    · have HB := Lib.hid hb
      clear hb
      go_wp2
      go_ret
      exact ⟨HB.out, rfl⟩

theorem cell_drewD (w : World) (a : Addr) : w.drew.cell? a = w.cell? a := rfl
theorem size_drewD (w : World) : w.drew.heap.size = w.heap.size := rfl
set_option maxRecDepth 100000 in
set_option maxHeartbeats 8000000 in
theorem sameDem_any (A A2 : Option Addr) (n c c2 : Nat) (l : List Dem) (w : World) (h : Dems w w.heap.size A n c l) (h2 : Dems w w.heap.size A2 n c2 l) :
    Calls Tryz.prog 13 #[.slice A n c, .slice A2 n c2] w fun e w' => Below w.heap.size w w' ∧ e = .returned (.bool true) := by
  have hcap := h.cap
  have hmax := h.max
  have hcap2 := h2.cap
  have hmax2 := h2.max
  have H1 : Hid (∀ w', Below w.heap.size w w' → Dems w' w'.heap.size A n c l) := fun w' hb => h.below hb (Nat.le_refl _) hb.size
  have H2 : Hid (∀ w', Below w.heap.size w w' → Dems w' w'.heap.size A2 n c2 l) := fun w' hb => h2.below hb (Nat.le_refl _) hb.size
  clear h h2
  go_enter Tryz.func13, Tryz.ntmps13
  go_wp2
  go_loopw [5] (fun i wr => ∃ k : Nat, k ≤ n ∧ i = .int .i64 k ∧ Below w.heap.size w wr) (fun i _ => n - (intOf i).toNat)
  case atStart => exact ⟨0, Nat.zero_le _, rfl, Below.refl _ _⟩
  case round =>
    obtain ⟨k, hk, rfl, hb⟩ := hrel
    have HB := Lib.hid hb
    by_cases hlt : k < n
    · obtain ⟨b, o, x, P, pc, rfl, hbb, hx, a0, a1, a2, hP⟩ := (H1.out _ hb).at_ hlt
      obtain ⟨b2, o2, x2, P2, pc2, rfl, hbb2, hx2, d0, d1, d2, hP2⟩ := (H2.out _ hb).at_ hlt
      rw [hx] at hx2
      obtain rfl : x = x2 := by simpa using hx2
      obtain ⟨xs, xf, xp⟩ := x
      dsimp only at a0 a1 a2 d0 d1 d2 hP hP2
      have z1 : (0 : Int) ≤ (k : Int) := by omega
      have z2 : (k : Int) < (n : Int) := by omega
      have ci := fun (W : World) (hw : Below wr.heap.size wr W) => ints_eqD P P2 xp.length pc pc2 xp W (hP.below hw (Nat.le_refl _) hw.size) (hP2.below hw (Nat.le_refl _) hw.size)
      obtain ⟨q, hq⟩ : ∃ q, xp.length = q := ⟨_, rfl⟩
      rw [hq] at a2 d2 ci
      have CI := Lib.hid ci
      clear hb hx hx2 hP hP2 ci hq
      go_wp2
      go_region_held3 (fun w' => (w'.cell? ⟨b, o + k * 3, none⟩ = some (.int .i64 xs) ∧ w'.cell? ⟨b, o + k * 3 + 1, none⟩ = some (.int .i64 xf) ∧ w'.cell? ⟨b, o + k * 3 + 2, none⟩ = some (.slice P q pc)) ∧ w'.cell? ⟨b2, o2 + k * 3, none⟩ = some (.int .i64 xs) ∧ w'.cell? ⟨b2, o2 + k * 3 + 1, none⟩ = some (.int .i64 xf) ∧ w'.cell? ⟨b2, o2 + k * 3 + 2, none⟩ = some (.slice P2 q pc2)) (go_keep) (go_loud (go_at_call 19; with_reducible refine (CI.out _ ?_).mono ?_; (focus (exact Below.drew (Below.refl _ _))); rintro e w1 ⟨hb1, rfl⟩; obtain ⟨hc1, -⟩ := bcell hb1; have e0 := (hc1 b (o + k * 3) (Nat.lt_of_lt_of_eq hbb (size_drewD wr).symm)).trans ((cell_drewD wr _).trans a0); have e1 := (hc1 b (o + k * 3 + 1) (Nat.lt_of_lt_of_eq hbb (size_drewD wr).symm)).trans ((cell_drewD wr _).trans a1); have e2 := (hc1 b (o + k * 3 + 2) (Nat.lt_of_lt_of_eq hbb (size_drewD wr).symm)).trans ((cell_drewD wr _).trans a2); have e3 := (hc1 b2 (o2 + k * 3) (Nat.lt_of_lt_of_eq hbb2 (size_drewD wr).symm)).trans ((cell_drewD wr _).trans d0); have e4 := (hc1 b2 (o2 + k * 3 + 1) (Nat.lt_of_lt_of_eq hbb2 (size_drewD wr).symm)).trans ((cell_drewD wr _).trans d1); have e5 := (hc1 b2 (o2 + k * 3 + 2) (Nat.lt_of_lt_of_eq hbb2 (size_drewD wr).symm)).trans ((cell_drewD wr _).trans d2); clear hc1; have HB1 : Hid (Below w.heap.size w w1) := Lib.hid (by have hb0 := HB.out; exact (by repeat (first | with_reducible exact Below.refl _ _ | with_reducible assumption | with_reducible refine Below.drew ?_ | with_reducible refine Below.drewN ?_ _ | with_reducible refine Below.alloc2 ?_ _ | with_reducible refine Below.alloc ?_ (by first | omega | (simp <;> omega)) _ | with_reducible refine Below.setCell ?_ (by first | omega | (simp <;> omega)) _ | with_reducible refine Below.step2 (by with_reducible assumption) ?_ | with_reducible refine Below.step (by with_reducible assumption) ?_ (by first | omega | (simp <;> omega)))))))
      go_wp2
      go_roundw
      case rel => exact ⟨k + 1, by omega, by go_num, HB1.out⟩
      case measure => simp [intOf]; omega
    · clear hb
      go_wp2
      go_ret
      exact ⟨HB.out, rfl⟩

end Go.Proofs.YtgljncfijcamhaaGreatDoor
