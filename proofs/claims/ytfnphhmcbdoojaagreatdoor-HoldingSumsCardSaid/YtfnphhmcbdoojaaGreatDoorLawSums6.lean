/- The walk of HoldingSums. -/
import Derived.Test.YtfnphhmcbdoojaaGreatDoorFew6
namespace Go.Proofs.YtfnphhmcbdoojaaGreatDoor
open Go.RowKit

theorem windErr_zero {G TE : Int} {bl bw bk : Bool} (h : windErr G TE bl bw bk = 0) : G = 0 ∧ TE = 0 ∧ bl = true ∧ bw = true ∧ bk = true := by
  unfold windErr at h
  by_cases hg : G = 0
  · by_cases ht : TE = 0
    · refine ⟨hg, ht, ?_⟩
      rw [if_neg (by simp [hg]), if_neg (by simp [ht])] at h
      cases bl <;> cases bw <;> cases bk <;> first | exact ⟨rfl, rfl, rfl⟩ | (exfalso; revert h; decide)
    · rw [if_neg (by simp [hg]), if_pos ht] at h
      exact absurd h ht
  · rw [if_pos hg] at h
    exact absurd h hg
theorem tiesErr_zero {n m : Nat} {l : List (Int × Int)} (h : tiesErr n m l = 0) : l.any (fun t => !tieIn n m t) = false := by
  unfold tiesErr at h
  split at h
  · cases h
  · split at h
    · cases h
    · rename_i hx
      simpa using hx

set_option maxHeartbeats 8000000 in
theorem lawSums_any (f : Int) (A A2 T V : Option Addr) (n c m c2 k0 ct wn cw : Nat) (a lv wind : List Int) (l : List (Int × Int)) (w : World) (ha : Nums w w.heap.size A n c a) (hl : Nums w w.heap.size A2 m c2 lv) (ht : Pts w w.heap.size T k0 ct l) (hv : Nums w w.heap.size V wn cw wind) :
    Calls Tryz.prog 8 #[.agg #[.int .i64 f, .slice A n c, .slice A2 m c2], .slice T k0 ct, .slice V wn cw] w fun e w' => Below w.heap.size w w' ∧ e = .returned (.bool true) := by
  have hlenA := ha.len
  have hlenB := hl.len
  have hlenT := ht.len
  have hlenV := hv.len
  have hcapA := ha.cap
  have hmaxA := ha.max
  have hcapB := hl.cap
  have hmaxB := hl.max
  have hcapv := hv.cap
  have hmaxv := hv.max
  obtain ⟨G, hG⟩ : ∃ G, gridErr f a lv = G := ⟨_, rfl⟩
  obtain ⟨TE, hTE⟩ : ∃ E, tiesErr n m l = E := ⟨_, rfl⟩
  obtain ⟨bw, hbw⟩ : ∃ b, allIn 0 1000000 wind = b := ⟨_, rfl⟩
  have c1 : ∀ w', Below w.heap.size w w' → Calls Tryz.prog 13 #[.agg #[.int .i64 f, .slice A n c, .slice A2 m c2]] w' fun e w'' => Below w'.heap.size w' w'' ∧ e = .returned (.int .i64 G) := fun w' hb => by
    rw [← hG]; exact checkGrid_any f A A2 n c m c2 a lv w' (ha.below hb (Nat.le_refl _) hb.size) (hl.below hb (Nat.le_refl _) hb.size)
  have c2' : ∀ w', Below w.heap.size w w' → Calls Tryz.prog 14 #[.agg #[.int .i64 f, .slice A n c, .slice A2 m c2]] w' fun e w'' => Below w'.heap.size w' w'' ∧ e = .returned (.int .i64 G) := fun w' hb => by
    rw [← hG]; exact refCheckGrid_any f A A2 n c m c2 a lv w' (ha.below hb (Nat.le_refl _) hb.size) (hl.below hb (Nat.le_refl _) hb.size)
  have c3 : ∀ w', Below w.heap.size w w' → Calls Tryz.prog 61 #[.agg #[.int .i64 f, .slice A n c, .slice A2 m c2], .slice T k0 ct] w' fun e w'' => Below w'.heap.size w' w'' ∧ e = .returned (.int .i64 TE) := fun w' hb => by
    rw [← hTE]; exact tiesError_any f A A2 T n c m c2 k0 ct l w' hcapA hmaxA hcapB hmaxB (ht.below hb (Nat.le_refl _) hb.size)
  have c4 : ∀ w', Below w.heap.size w w' → Calls Tryz.prog 56 #[.int .i64 0, .int .i64 1000000, .slice V wn cw] w' fun e w'' => Below w'.heap.size w' w'' ∧ e = .returned (.bool bw) := fun w' hb => by
    rw [← hbw]; exact areFrom_any V wn cw wind 0 1000000 w' (hv.below hb (Nat.le_refl _) hb.size)
  obtain ⟨fb, hfb⟩ : ∃ b, fewB n m G = b := ⟨_, rfl⟩
  have CF : Hid (∀ w', Below w.heap.size w w' → Calls Tryz.prog 21 #[.agg #[.int .i64 f, .slice A n c, .slice A2 m c2]] w' fun e w'' => Below w'.heap.size w' w'' ∧ e = .returned (.bool fb)) := Lib.hid fun w' hb => by
    rw [← hfb]; exact few_any f A A2 n c m c2 G w' fun w'' hb' => c2' w'' (hb.trans (hb'.mono hb.size))
  have hsz : G = 0 → n ≤ 60 ∧ m ≤ 60 := fun hg => by
    have := gridErr_sizes (hG.trans hg)
    rw [hlenA, hlenB] at this
    omega
  obtain ⟨WE, hWE⟩ : ∃ E, windErr G TE (decide (wn = n * m)) bw (decide (1 ≤ k0)) = E := ⟨_, rfl⟩
  cases fb
  · clear c1 c2' c3 c4 ha hl ht hv hG hTE hbw hfb hsz hWE
    (
        go_enter Tryz.func8, Tryz.ntmps8
        go_wp2_with (first
    | (go_at_call 12; with_reducible refine (awake_true _).mono ?_; rintro e w1 ⟨hb1, rfl⟩; have kg : Bk w1 w.heap.size 24 #[.int .i64 f, .slice A n c, .slice A2 m c2] := (by repeat (first | with_reducible assumption | with_reducible exact Bk.at_ (by first | (simp; done) | omega) | with_reducible refine Bk.alloc ?_ _ | with_reducible refine Bk.drew ?_ | with_reducible refine Bk.drewN ?_ _ | with_reducible refine Bk.step (by with_reducible assumption) ?_ (by first | omega | (simp <;> omega)))); obtain ⟨⟨g0, g1, g2⟩, -⟩ := kg.three; have oz1 := hb1.size; (try simp at oz1))
    | (go_at_call 21; with_reducible refine (CF.out _ ?_).mono ?_; (focus (exact (by repeat (first | with_reducible exact Below.refl _ _ | with_reducible assumption | with_reducible refine Below.drew ?_ | with_reducible refine Below.drewN ?_ _ | with_reducible refine Below.alloc2 ?_ _ | with_reducible refine Below.alloc ?_ (by first | omega | (simp <;> omega)) _ | with_reducible refine Below.setCell ?_ (by first | omega | (simp <;> omega)) _ | with_reducible refine Below.step2 (by with_reducible assumption) ?_ | with_reducible refine Below.step (by with_reducible assumption) ?_ (by first | omega | (simp <;> omega)))))); rintro e w1 ⟨hb1, rfl⟩; have kg : Bk w1 w.heap.size 24 #[.int .i64 f, .slice A n c, .slice A2 m c2] := (by repeat (first | with_reducible assumption | with_reducible exact Bk.at_ (by first | (simp; done) | omega) | with_reducible refine Bk.alloc ?_ _ | with_reducible refine Bk.drew ?_ | with_reducible refine Bk.drewN ?_ _ | with_reducible refine Bk.step (by with_reducible assumption) ?_ (by first | omega | (simp <;> omega)))); obtain ⟨⟨g0, g1, g2⟩, -⟩ := kg.three; have oz1 := hb1.size; (try simp at oz1))
    | (go_at_call 33; with_reducible refine (CB.out _ ?_).mono ?_; (focus (exact (by repeat (first | with_reducible exact Below.refl _ _ | with_reducible assumption | with_reducible refine Below.drew ?_ | with_reducible refine Below.drewN ?_ _ | with_reducible refine Below.alloc2 ?_ _ | with_reducible refine Below.alloc ?_ (by first | omega | (simp <;> omega)) _ | with_reducible refine Below.setCell ?_ (by first | omega | (simp <;> omega)) _ | with_reducible refine Below.step2 (by with_reducible assumption) ?_ | with_reducible refine Below.step (by with_reducible assumption) ?_ (by first | omega | (simp <;> omega)))))); rintro e w1 ⟨hb1, rfl⟩; have kg : Bk w1 w.heap.size 24 #[.int .i64 f, .slice A n c, .slice A2 m c2] := (by repeat (first | with_reducible assumption | with_reducible exact Bk.at_ (by first | (simp; done) | omega) | with_reducible refine Bk.alloc ?_ _ | with_reducible refine Bk.drew ?_ | with_reducible refine Bk.drewN ?_ _ | with_reducible refine Bk.step (by with_reducible assumption) ?_ (by first | omega | (simp <;> omega)))); obtain ⟨⟨g0, g1, g2⟩, -⟩ := kg.three; have oz1 := hb1.size; (try simp at oz1)))
        go_ret
        exact ⟨(by repeat (first | with_reducible exact Below.refl _ _ | with_reducible assumption | with_reducible refine Below.drew ?_ | with_reducible refine Below.drewN ?_ _ | with_reducible refine Below.alloc2 ?_ _ | with_reducible refine Below.alloc ?_ (by first | omega | (simp <;> omega)) _ | with_reducible refine Below.setCell ?_ (by first | omega | (simp <;> omega)) _ | with_reducible refine Below.step2 (by with_reducible assumption) ?_ | with_reducible refine Below.step (by with_reducible assumption) ?_ (by first | omega | (simp <;> omega)))), rfl⟩)
  rcases Nat.lt_or_ge 40 k0 with hk | hk
  · have hki : (40 : Int) < (k0 : Int) := by omega
    clear c1 c2' c3 c4 ha hl ht hv hG hTE hbw hfb hsz hWE
    (
        go_enter Tryz.func8, Tryz.ntmps8
        go_wp2_with (first
    | (go_at_call 12; with_reducible refine (awake_true _).mono ?_; rintro e w1 ⟨hb1, rfl⟩; have kg : Bk w1 w.heap.size 24 #[.int .i64 f, .slice A n c, .slice A2 m c2] := (by repeat (first | with_reducible assumption | with_reducible exact Bk.at_ (by first | (simp; done) | omega) | with_reducible refine Bk.alloc ?_ _ | with_reducible refine Bk.drew ?_ | with_reducible refine Bk.drewN ?_ _ | with_reducible refine Bk.step (by with_reducible assumption) ?_ (by first | omega | (simp <;> omega)))); obtain ⟨⟨g0, g1, g2⟩, -⟩ := kg.three; have oz1 := hb1.size; (try simp at oz1))
    | (go_at_call 21; with_reducible refine (CF.out _ ?_).mono ?_; (focus (exact (by repeat (first | with_reducible exact Below.refl _ _ | with_reducible assumption | with_reducible refine Below.drew ?_ | with_reducible refine Below.drewN ?_ _ | with_reducible refine Below.alloc2 ?_ _ | with_reducible refine Below.alloc ?_ (by first | omega | (simp <;> omega)) _ | with_reducible refine Below.setCell ?_ (by first | omega | (simp <;> omega)) _ | with_reducible refine Below.step2 (by with_reducible assumption) ?_ | with_reducible refine Below.step (by with_reducible assumption) ?_ (by first | omega | (simp <;> omega)))))); rintro e w1 ⟨hb1, rfl⟩; have kg : Bk w1 w.heap.size 24 #[.int .i64 f, .slice A n c, .slice A2 m c2] := (by repeat (first | with_reducible assumption | with_reducible exact Bk.at_ (by first | (simp; done) | omega) | with_reducible refine Bk.alloc ?_ _ | with_reducible refine Bk.drew ?_ | with_reducible refine Bk.drewN ?_ _ | with_reducible refine Bk.step (by with_reducible assumption) ?_ (by first | omega | (simp <;> omega)))); obtain ⟨⟨g0, g1, g2⟩, -⟩ := kg.three; have oz1 := hb1.size; (try simp at oz1))
    | (go_at_call 33; with_reducible refine (CB.out _ ?_).mono ?_; (focus (exact (by repeat (first | with_reducible exact Below.refl _ _ | with_reducible assumption | with_reducible refine Below.drew ?_ | with_reducible refine Below.drewN ?_ _ | with_reducible refine Below.alloc2 ?_ _ | with_reducible refine Below.alloc ?_ (by first | omega | (simp <;> omega)) _ | with_reducible refine Below.setCell ?_ (by first | omega | (simp <;> omega)) _ | with_reducible refine Below.step2 (by with_reducible assumption) ?_ | with_reducible refine Below.step (by with_reducible assumption) ?_ (by first | omega | (simp <;> omega)))))); rintro e w1 ⟨hb1, rfl⟩; have kg : Bk w1 w.heap.size 24 #[.int .i64 f, .slice A n c, .slice A2 m c2] := (by repeat (first | with_reducible assumption | with_reducible exact Bk.at_ (by first | (simp; done) | omega) | with_reducible refine Bk.alloc ?_ _ | with_reducible refine Bk.drew ?_ | with_reducible refine Bk.drewN ?_ _ | with_reducible refine Bk.step (by with_reducible assumption) ?_ (by first | omega | (simp <;> omega)))); obtain ⟨⟨g0, g1, g2⟩, -⟩ := kg.three; have oz1 := hb1.size; (try simp at oz1)))
        go_ret
        exact ⟨(by repeat (first | with_reducible exact Below.refl _ _ | with_reducible assumption | with_reducible refine Below.drew ?_ | with_reducible refine Below.drewN ?_ _ | with_reducible refine Below.alloc2 ?_ _ | with_reducible refine Below.alloc ?_ (by first | omega | (simp <;> omega)) _ | with_reducible refine Below.setCell ?_ (by first | omega | (simp <;> omega)) _ | with_reducible refine Below.step2 (by with_reducible assumption) ?_ | with_reducible refine Below.step (by with_reducible assumption) ?_ (by first | omega | (simp <;> omega)))), rfl⟩)
  rcases Nat.lt_or_ge 100 wn with hw | hw
  · have hki : ¬ (40 : Int) < (k0 : Int) := by omega
    have hwi : (100 : Int) < (wn : Int) := by omega
    clear c1 c2' c3 c4 ha hl ht hv hG hTE hbw hfb hsz hWE
    (
        go_enter Tryz.func8, Tryz.ntmps8
        go_wp2_with (first
    | (go_at_call 12; with_reducible refine (awake_true _).mono ?_; rintro e w1 ⟨hb1, rfl⟩; have kg : Bk w1 w.heap.size 24 #[.int .i64 f, .slice A n c, .slice A2 m c2] := (by repeat (first | with_reducible assumption | with_reducible exact Bk.at_ (by first | (simp; done) | omega) | with_reducible refine Bk.alloc ?_ _ | with_reducible refine Bk.drew ?_ | with_reducible refine Bk.drewN ?_ _ | with_reducible refine Bk.step (by with_reducible assumption) ?_ (by first | omega | (simp <;> omega)))); obtain ⟨⟨g0, g1, g2⟩, -⟩ := kg.three; have oz1 := hb1.size; (try simp at oz1))
    | (go_at_call 21; with_reducible refine (CF.out _ ?_).mono ?_; (focus (exact (by repeat (first | with_reducible exact Below.refl _ _ | with_reducible assumption | with_reducible refine Below.drew ?_ | with_reducible refine Below.drewN ?_ _ | with_reducible refine Below.alloc2 ?_ _ | with_reducible refine Below.alloc ?_ (by first | omega | (simp <;> omega)) _ | with_reducible refine Below.setCell ?_ (by first | omega | (simp <;> omega)) _ | with_reducible refine Below.step2 (by with_reducible assumption) ?_ | with_reducible refine Below.step (by with_reducible assumption) ?_ (by first | omega | (simp <;> omega)))))); rintro e w1 ⟨hb1, rfl⟩; have kg : Bk w1 w.heap.size 24 #[.int .i64 f, .slice A n c, .slice A2 m c2] := (by repeat (first | with_reducible assumption | with_reducible exact Bk.at_ (by first | (simp; done) | omega) | with_reducible refine Bk.alloc ?_ _ | with_reducible refine Bk.drew ?_ | with_reducible refine Bk.drewN ?_ _ | with_reducible refine Bk.step (by with_reducible assumption) ?_ (by first | omega | (simp <;> omega)))); obtain ⟨⟨g0, g1, g2⟩, -⟩ := kg.three; have oz1 := hb1.size; (try simp at oz1))
    | (go_at_call 33; with_reducible refine (CB.out _ ?_).mono ?_; (focus (exact (by repeat (first | with_reducible exact Below.refl _ _ | with_reducible assumption | with_reducible refine Below.drew ?_ | with_reducible refine Below.drewN ?_ _ | with_reducible refine Below.alloc2 ?_ _ | with_reducible refine Below.alloc ?_ (by first | omega | (simp <;> omega)) _ | with_reducible refine Below.setCell ?_ (by first | omega | (simp <;> omega)) _ | with_reducible refine Below.step2 (by with_reducible assumption) ?_ | with_reducible refine Below.step (by with_reducible assumption) ?_ (by first | omega | (simp <;> omega)))))); rintro e w1 ⟨hb1, rfl⟩; have kg : Bk w1 w.heap.size 24 #[.int .i64 f, .slice A n c, .slice A2 m c2] := (by repeat (first | with_reducible assumption | with_reducible exact Bk.at_ (by first | (simp; done) | omega) | with_reducible refine Bk.alloc ?_ _ | with_reducible refine Bk.drew ?_ | with_reducible refine Bk.drewN ?_ _ | with_reducible refine Bk.step (by with_reducible assumption) ?_ (by first | omega | (simp <;> omega)))); obtain ⟨⟨g0, g1, g2⟩, -⟩ := kg.three; have oz1 := hb1.size; (try simp at oz1)))
        go_ret
        exact ⟨(by repeat (first | with_reducible exact Below.refl _ _ | with_reducible assumption | with_reducible refine Below.drew ?_ | with_reducible refine Below.drewN ?_ _ | with_reducible refine Below.alloc2 ?_ _ | with_reducible refine Below.alloc ?_ (by first | omega | (simp <;> omega)) _ | with_reducible refine Below.setCell ?_ (by first | omega | (simp <;> omega)) _ | with_reducible refine Below.step2 (by with_reducible assumption) ?_ | with_reducible refine Below.step (by with_reducible assumption) ?_ (by first | omega | (simp <;> omega)))), rfl⟩)
  have hki : ¬ (40 : Int) < (k0 : Int) := by omega
  have hwi : ¬ (100 : Int) < (wn : Int) := by omega
  by_cases h0 : WE = 0
  · subst h0
    obtain ⟨rfl, rfl, hwd, rfl, hkd⟩ := windErr_zero hWE
    have hwn : wn = n * m := of_decide_eq_true hwd
    have hk1 : 1 ≤ k0 := of_decide_eq_true hkd
    obtain ⟨-, -, -, ba, bl, -, -⟩ := gErr_zero hG
    have hsizes := gridErr_sizes hG
    rw [hlenA, hlenB] at hsizes
    have hin := tiesErr_zero hTE
    have cs := fun (w' : World) (hb : Below w.heap.size w w') => shares_ok f A A2 T V n c m c2 k0 ct wn cw a lv wind l w' (ha.below hb (Nat.le_refl _) hb.size) (hl.below hb (Nat.le_refl _) hb.size) (ht.below hb (Nat.le_refl _) hb.size) (hv.below hb (Nat.le_refl _) hb.size)
      (by omega) (by omega) (by omega) hk1 (by omega) hwn ba bl hbw hin (fun w'' hb' => c1 w'' (hb.trans (hb'.mono hb.size))) (fun w'' hb' => c3 w'' (hb.trans (hb'.mono hb.size))) (fun w'' hb' => c4 w'' (hb.trans (hb'.mono hb.size)))
    have hSl := sharesTo_len (a := a) (lv := lv) (l := l) (m := m) (k0 := k0) (wind := wind) wn
    have hSm := sharesTo_sum (a := a) (lv := lv) (l := l) (m := m) (k0 := k0) (wind := wind) (by omega) hlenT wn (by omega)
    have hSb := fun r => sharesTo_bd (a := a) (lv := lv) (l := l) (m := m) (k0 := k0) hbw wn r
    generalize sharesTo a lv l m k0 wind wn = S at cs hSl hSm hSb
    have CS := Lib.hid cs
    have hWm : ∀ x ∈ wind, 0 ≤ x ∧ x ≤ 1000000 := fun x hx => by simpa using List.all_eq_true.1 hbw x hx
    have hSm2 : ∀ x ∈ S, 0 ≤ x ∧ x ≤ 100000000 := fun x hx => by
      obtain ⟨r, hr, rfl⟩ := List.getElem_of_mem hx
      have := hSb r
      rw [List.getD_eq_getElem?_getD, List.getElem?_eq_getElem hr] at this
      simp only [Option.getD_some] at this
      omega
    have HWB := Lib.hid (fun k (h : k ≤ wn) => sum_take_bd hWm k (by omega))
    have HSB := Lib.hid (fun k (h : k ≤ k0) => sum_take_bd hSm2 k (by omega))
    have HSM := Lib.hid hSm2
    obtain ⟨Z, hZ⟩ : ∃ Z, (wind.take wn).sum = Z := ⟨_, rfl⟩
    have HZ1 := Lib.hid hZ
    have HZ2 : Hid ((S.take k0).sum = Z) := Lib.hid (by rw [List.take_of_length_le (by omega), hSm, hZ])
    have HV := Lib.hid hv
    clear c1 c2' c3 c4 ha hl ht hv hG hTE hbw hfb hsz hWE cs hSl hSm hSb hWm hSm2 hZ hwd hkd hwn hk hw ba bl hsizes hin hlenA hlenB hlenT hlenV
    go_enter Tryz.func8, Tryz.ntmps8
    go_wp2_with (first
        | (go_at_call 12; with_reducible refine (awake_true _).mono ?_; rintro e w1 ⟨hb1, rfl⟩; have kg : Bk w1 w.heap.size 24 #[.int .i64 f, .slice A n c, .slice A2 m c2] := (by repeat (first | with_reducible assumption | with_reducible exact Bk.at_ (by first | (simp; done) | omega) | with_reducible refine Bk.alloc ?_ _ | with_reducible refine Bk.drew ?_ | with_reducible refine Bk.drewN ?_ _ | with_reducible refine Bk.step (by with_reducible assumption) ?_ (by first | omega | (simp <;> omega)))); obtain ⟨⟨g0, g1, g2⟩, -⟩ := kg.three; have oz1 := hb1.size; (try simp at oz1))
        | (go_at_call 21; with_reducible refine (CF.out _ ?_).mono ?_; (focus (exact (by repeat (first | with_reducible exact Below.refl _ _ | with_reducible assumption | with_reducible refine Below.drew ?_ | with_reducible refine Below.drewN ?_ _ | with_reducible refine Below.alloc2 ?_ _ | with_reducible refine Below.alloc ?_ (by first | omega | (simp <;> omega)) _ | with_reducible refine Below.setCell ?_ (by first | omega | (simp <;> omega)) _ | with_reducible refine Below.step2 (by with_reducible assumption) ?_ | with_reducible refine Below.step (by with_reducible assumption) ?_ (by first | omega | (simp <;> omega)))))); rintro e w1 ⟨hb1, rfl⟩; have kg : Bk w1 w.heap.size 24 #[.int .i64 f, .slice A n c, .slice A2 m c2] := (by repeat (first | with_reducible assumption | with_reducible exact Bk.at_ (by first | (simp; done) | omega) | with_reducible refine Bk.alloc ?_ _ | with_reducible refine Bk.drew ?_ | with_reducible refine Bk.drewN ?_ _ | with_reducible refine Bk.step (by with_reducible assumption) ?_ (by first | omega | (simp <;> omega)))); obtain ⟨⟨g0, g1, g2⟩, -⟩ := kg.three; have oz1 := hb1.size; (try simp at oz1))
        | (go_at_call 33; with_reducible refine (CS.out _ ?_).mono ?_; (focus (exact (by repeat (first | with_reducible exact Below.refl _ _ | with_reducible assumption | with_reducible refine Below.drew ?_ | with_reducible refine Below.drewN ?_ _ | with_reducible refine Below.alloc2 ?_ _ | with_reducible refine Below.alloc ?_ (by first | omega | (simp <;> omega)) _ | with_reducible refine Below.setCell ?_ (by first | omega | (simp <;> omega)) _ | with_reducible refine Below.step2 (by with_reducible assumption) ?_ | with_reducible refine Below.step (by with_reducible assumption) ?_ (by first | omega | (simp <;> omega)))))); rintro e wS ⟨hb1, g, rfl, hN⟩; have HNS := Lib.hid hN; have HBS : Hid (Below w.heap.size w wS) := Lib.hid (by exact (by repeat (first | with_reducible exact Below.refl _ _ | with_reducible assumption | with_reducible refine Below.drew ?_ | with_reducible refine Below.drewN ?_ _ | with_reducible refine Below.alloc2 ?_ _ | with_reducible refine Below.alloc ?_ (by first | omega | (simp <;> omega)) _ | with_reducible refine Below.setCell ?_ (by first | omega | (simp <;> omega)) _ | with_reducible refine Below.step2 (by with_reducible assumption) ?_ | with_reducible refine Below.step (by with_reducible assumption) ?_ (by first | omega | (simp <;> omega))))); clear hN))
    have HVS := Lib.hid (HV.out.below HBS.out (Nat.le_refl _) HBS.out.size)
    go_loop [9, 11] (fun s i => ∃ k : Nat, k ≤ wn ∧ i = .int .i64 k ∧ s = .int .i64 (wind.take k).sum) (fun _ i => wn - (intOf i).toNat)
    case atStart => exact ⟨0, Nat.zero_le _, rfl, by simp⟩
    case round =>
      obtain ⟨k, hk, rfl, rfl⟩ := hrel
      by_cases hlt : k < wn
      · obtain ⟨b, o, x, rfl, hbb, hx, c0⟩ := HVS.out.at_ hlt
        have h1 := HWB.out (k + 1) hlt
        have hst : Hid ((wind.take (k + 1)).sum = (wind.take k).sum + x) := Lib.hid (sum_take hx)
        rw [hst.out] at h1
        have hww : IntKind.i64.wrap ((wind.take k).sum + x) = (wind.take k).sum + x := IntWalk.i64_in _ (by omega)
        generalize hs0 : (wind.take k).sum = s0 at *
        clear hx h1 hs0
        go_wp2
        go_round
        case rel => exact ⟨k + 1, by omega, by go_num, by rw [hst.out]⟩
        case measure => simp [intOf]; omega
      · obtain rfl : k = wn := by omega
        rw [HZ1.out]
        go_wp2
        go_loop [10, 12] (fun s i => ∃ j : Nat, j ≤ k0 ∧ i = .int .i64 j ∧ s = .int .i64 (S.take j).sum) (fun _ i => k0 - (intOf i).toNat)
        case atStart => exact ⟨0, Nat.zero_le _, rfl, by simp⟩
        case round =>
          obtain ⟨j, hj, rfl, rfl⟩ := hrel
          by_cases hlt : j < k0
          · obtain ⟨b, o, x, hgo, hbb, hx, c0⟩ := HNS.out.at_ hlt
            obtain ⟨rfl, rfl⟩ : g = b ∧ 0 = o := by simpa using hgo
            have h1 := HSB.out (j + 1) hlt
            have hst : Hid ((S.take (j + 1)).sum = (S.take j).sum + x) := Lib.hid (sum_take hx)
            have hx0 := (HSM.out x (List.mem_of_getElem? hx)).1
            have hxn : ¬ x < 0 := by omega
            rw [hst.out] at h1
            have hww : IntKind.i64.wrap ((S.take j).sum + x) = (S.take j).sum + x := IntWalk.i64_in _ (by omega)
            generalize hs0 : (S.take j).sum = s0 at *
            rw [Nat.zero_add] at c0
            clear hx h1 hs0 hgo hx0
            go_wp2
            go_round
            case rel => exact ⟨j + 1, by omega, by go_num, by rw [hst.out]⟩
            case measure => simp [intOf]; omega
          · obtain rfl : j = k0 := by omega
            rw [HZ2.out]
            go_wp2
            go_ret
            exact ⟨HBS.out, rfl⟩
  · have hWb : (WE != 0) = true := by simpa using h0
    have CB : Hid (∀ w', Below w.heap.size w w' → Calls Tryz.prog 33 #[.agg #[.int .i64 f, .slice A n c, .slice A2 m c2], .slice T k0 ct, .slice V wn cw] w' fun e w'' => Below w'.heap.size w' w'' ∧ e = .returned (.tuple #[.slice none 0 0, .int .i64 WE])) := Lib.hid fun w' hb => by
      have := shares_bad f A A2 T V n c m c2 k0 ct wn cw G TE bw w' (fun w'' hb' => c1 w'' (hb.trans (hb'.mono hb.size))) (fun w'' hb' => c3 w'' (hb.trans (hb'.mono hb.size))) (fun w'' hb' => c4 w'' (hb.trans (hb'.mono hb.size))) hsz (by rw [hWE]; exact h0)
      rwa [hWE] at this
    clear c1 c2' c3 c4 ha hl ht hv hG hTE hbw hfb hsz hWE h0
    (
        go_enter Tryz.func8, Tryz.ntmps8
        go_wp2_with (first
    | (go_at_call 12; with_reducible refine (awake_true _).mono ?_; rintro e w1 ⟨hb1, rfl⟩; have kg : Bk w1 w.heap.size 24 #[.int .i64 f, .slice A n c, .slice A2 m c2] := (by repeat (first | with_reducible assumption | with_reducible exact Bk.at_ (by first | (simp; done) | omega) | with_reducible refine Bk.alloc ?_ _ | with_reducible refine Bk.drew ?_ | with_reducible refine Bk.drewN ?_ _ | with_reducible refine Bk.step (by with_reducible assumption) ?_ (by first | omega | (simp <;> omega)))); obtain ⟨⟨g0, g1, g2⟩, -⟩ := kg.three; have oz1 := hb1.size; (try simp at oz1))
    | (go_at_call 21; with_reducible refine (CF.out _ ?_).mono ?_; (focus (exact (by repeat (first | with_reducible exact Below.refl _ _ | with_reducible assumption | with_reducible refine Below.drew ?_ | with_reducible refine Below.drewN ?_ _ | with_reducible refine Below.alloc2 ?_ _ | with_reducible refine Below.alloc ?_ (by first | omega | (simp <;> omega)) _ | with_reducible refine Below.setCell ?_ (by first | omega | (simp <;> omega)) _ | with_reducible refine Below.step2 (by with_reducible assumption) ?_ | with_reducible refine Below.step (by with_reducible assumption) ?_ (by first | omega | (simp <;> omega)))))); rintro e w1 ⟨hb1, rfl⟩; have kg : Bk w1 w.heap.size 24 #[.int .i64 f, .slice A n c, .slice A2 m c2] := (by repeat (first | with_reducible assumption | with_reducible exact Bk.at_ (by first | (simp; done) | omega) | with_reducible refine Bk.alloc ?_ _ | with_reducible refine Bk.drew ?_ | with_reducible refine Bk.drewN ?_ _ | with_reducible refine Bk.step (by with_reducible assumption) ?_ (by first | omega | (simp <;> omega)))); obtain ⟨⟨g0, g1, g2⟩, -⟩ := kg.three; have oz1 := hb1.size; (try simp at oz1))
    | (go_at_call 33; with_reducible refine (CB.out _ ?_).mono ?_; (focus (exact (by repeat (first | with_reducible exact Below.refl _ _ | with_reducible assumption | with_reducible refine Below.drew ?_ | with_reducible refine Below.drewN ?_ _ | with_reducible refine Below.alloc2 ?_ _ | with_reducible refine Below.alloc ?_ (by first | omega | (simp <;> omega)) _ | with_reducible refine Below.setCell ?_ (by first | omega | (simp <;> omega)) _ | with_reducible refine Below.step2 (by with_reducible assumption) ?_ | with_reducible refine Below.step (by with_reducible assumption) ?_ (by first | omega | (simp <;> omega)))))); rintro e w1 ⟨hb1, rfl⟩; have kg : Bk w1 w.heap.size 24 #[.int .i64 f, .slice A n c, .slice A2 m c2] := (by repeat (first | with_reducible assumption | with_reducible exact Bk.at_ (by first | (simp; done) | omega) | with_reducible refine Bk.alloc ?_ _ | with_reducible refine Bk.drew ?_ | with_reducible refine Bk.drewN ?_ _ | with_reducible refine Bk.step (by with_reducible assumption) ?_ (by first | omega | (simp <;> omega)))); obtain ⟨⟨g0, g1, g2⟩, -⟩ := kg.three; have oz1 := hb1.size; (try simp at oz1)))
        go_ret
        exact ⟨(by repeat (first | with_reducible exact Below.refl _ _ | with_reducible assumption | with_reducible refine Below.drew ?_ | with_reducible refine Below.drewN ?_ _ | with_reducible refine Below.alloc2 ?_ _ | with_reducible refine Below.alloc ?_ (by first | omega | (simp <;> omega)) _ | with_reducible refine Below.setCell ?_ (by first | omega | (simp <;> omega)) _ | with_reducible refine Below.step2 (by with_reducible assumption) ?_ | with_reducible refine Below.step (by with_reducible assumption) ?_ (by first | omega | (simp <;> omega)))), rfl⟩)

end Go.Proofs.YtfnphhmcbdoojaaGreatDoor
