/- Chapter 6, walks: the order of ties. -/
import Derived.Test.YtgljncfijcamhaaGreatDoorOwn6
namespace Go.Proofs.YtgljncfijcamhaaGreatDoor
open Go.RowKit

def orI : List Int → Int
  | [] => 0
  | x :: l => if x = 0 then orI l else x
set_option maxHeartbeats 1000000 in
theorem or_any (A : Option Addr) (n c B : Nat) (l : List Int) (w : World) (h : Nums w B A n c l) :
    Calls Tryz.prog 120 #[.slice A n c] w fun e w' => w = w' ∧ e = .returned (.int .i64 (orI l)) := by
  have hcap := h.cap
  have hmax := h.max
  have HLEN := Lib.hid h.len
  obtain ⟨R, hR⟩ : ∃ R, orI l = R := ⟨_, rfl⟩
  have HR := Lib.hid hR
  rw [hR]
  clear hR
  go_enter Tryz.func120, Tryz.ntmps120
  go_wp2
  go_loop [5, 8] (fun _ i => ∃ k : Nat, k ≤ n ∧ i = .int .i64 k ∧ Hid (orI (l.drop k) = R)) (fun _ i => n - (intOf i).toNat)
  case atStart => exact ⟨0, Nat.zero_le _, rfl, Lib.hid (by simpa using HR.out)⟩
  case round =>
    obtain ⟨k, hk, rfl, HV⟩ := hrel
    by_cases hlt : k < n
    · obtain ⟨b, o, x, rfl, hb, hx, hc⟩ := h.at_ hlt
      obtain ⟨hkl, hxl⟩ := List.getElem?_eq_some_iff.1 hx
      have HD : Hid (l.drop k = x :: l.drop (k + 1)) := Lib.hid (by rw [← hxl]; exact List.drop_eq_getElem_cons hkl)
      clear hx hkl hxl
      by_cases hx0 : x = 0
      · have HX := Lib.hid hx0
        subst hx0
        go_wp2
        go_round
        case rel => exact ⟨k + 1, by omega, by go_num, Lib.hid (by rw [← HV.out, HD.out]; rfl)⟩
        case measure => simp [intOf]; omega
      · have hxb : (x != 0) = true := by simpa using hx0
        go_wp2
        go_ret
        refine ⟨rfl, ret_int ?_⟩
        rw [← HV.out, HD.out]
        simp [orI, hx0]
    · go_wp2
      go_ret
      refine ⟨rfl, ret_int ?_⟩
      rw [← HV.out, List.drop_eq_nil_of_le (by rw [HLEN.out]; omega)]
      rfl

/-- Whether a tie stands before another one. -/
def bef (t u : Int × Int) : Bool := decide (t.1 < u.1) || (decide (t.1 = u.1) && decide (t.2 < u.2))
theorem nums_two {w : World} {g B : Nat} {x y : Int} (h : w.cell? ⟨g, 0, none⟩ = some (.int .i64 x)) (h2 : w.cell? ⟨g, 1, none⟩ = some (.int .i64 y)) (hg : g < B) : Nums w B (some ⟨g, 0, none⟩) 2 2 [x, y] :=
  ⟨⟨rfl, Nat.le_refl _, by omega, fun _ => ⟨g, 0, rfl, hg, fun k u hu => by
    match k, hu with
    | 0, hu => simp [i64s] at hu; subst hu; exact h
    | 1, hu => simp [i64s] at hu; subst hu; exact h2
    | k + 2, hu => simp [i64s] at hu⟩⟩⟩
theorem or_two (x y r : Int) (g : Nat) (w : World) (h : w.cell? ⟨g, 0, none⟩ = some (.int .i64 x)) (h2 : w.cell? ⟨g, 1, none⟩ = some (.int .i64 y)) (hr : orI [x, y] = r) :
    Calls Tryz.prog 120 #[.slice (some ⟨g, 0, none⟩) 2 2] w fun e w' => w = w' ∧ e = .returned (.int .i64 r) := by
  subst hr
  exact or_any _ 2 2 (g + 1) [x, y] w (nums_two h h2 (Nat.lt_succ_self g))
theorem or_bk (x y r : Int) (g t : Nat) (w : World) (h : Bk w g t #[.int .i64 x, .int .i64 y]) (hr : orI [x, y] = r) :
    Calls Tryz.prog 120 #[.slice (some ⟨g, 0, none⟩) 2 2] w fun e w' => w = w' ∧ e = .returned (.int .i64 r) :=
  or_two x y r g w (by simpa using h.cell 0) (by simpa using h.cell 1) hr
set_option maxHeartbeats 2000000 in
theorem compareTies_of (a a2 b b2 x y r : Int) (w : World) (c1 : ∀ W, Calls Tryz.prog 89 #[.int .i64 a, .int .i64 b] W fun e w' => e = .returned (.int .i64 x) ∧ w' = W)
    (c2 : ∀ W, Calls Tryz.prog 89 #[.int .i64 a2, .int .i64 b2] W fun e w' => e = .returned (.int .i64 y) ∧ w' = W) (hr : orI [x, y] = r) :
    Calls Tryz.prog 85 #[.agg #[.int .i64 a, .int .i64 a2], .agg #[.int .i64 b, .int .i64 b2]] w fun e w' => Below w.heap.size w w' ∧ e = .returned (.int .i64 r) := by
  have C1 := Lib.hid c1
  have C2 := Lib.hid c2
  have HR := Lib.hid hr
  clear c1 c2 hr
  (
    go_enter Tryz.func85, Tryz.ntmps85
    go_wp2
    go_region_held3 (fun w' => (w'.cell? ⟨w.heap.size, 0, none⟩ = some (.int .i64 a) ∧ w'.cell? ⟨w.heap.size, 1, none⟩ = some (.int .i64 a2)) ∧ w'.cell? ⟨w.heap.size + 1, 0, none⟩ = some (.int .i64 b) ∧ w'.cell? ⟨w.heap.size + 1, 1, none⟩ = some (.int .i64 b2)) (go_keep) (first
          | (go_at_call 89; with_reducible refine (C1.out _).mono ?_; rintro e w1 ⟨rfl, rfl⟩)
          | (go_at_call 89; with_reducible refine (C2.out _).mono ?_; rintro e w1 ⟨rfl, rfl⟩)
          | (go_at_call 120; refine (or_bk x y r _ 3 _ (by exact (by repeat (first | with_reducible assumption | with_reducible exact Bk.at_ (by first | (simp; done) | omega) | with_reducible refine Bk.alloc ?_ _ | with_reducible refine Bk.drew ?_ | with_reducible refine Bk.drewN ?_ _ | with_reducible refine Bk.step (by with_reducible assumption) ?_ (by first | omega | (simp <;> omega))))) HR.out).mono ?_; rintro e w1 ⟨rfl, rfl⟩))
    all_goals go_wp2
    all_goals go_ret
    all_goals exact ⟨(by repeat (first | with_reducible exact Below.refl _ _ | with_reducible assumption | with_reducible refine Below.drew ?_ | with_reducible refine Below.drewN ?_ _ | with_reducible refine Below.alloc2 ?_ _ | with_reducible refine Below.alloc ?_ (by first | omega | (simp <;> omega)) _ | with_reducible refine Below.setCell ?_ (by first | omega | (simp <;> omega)) _ | with_reducible refine Below.step2 (by with_reducible assumption) ?_ | with_reducible refine Below.step (by with_reducible assumption) ?_ (by first | omega | (simp <;> omega)))), rfl⟩)
theorem cmp_any (x y : Int) : ∃ r : Int, (r = -1 ∧ x < y ∨ r = 0 ∧ x = y ∨ r = 1 ∧ y < x) ∧ ∀ W, Calls Tryz.prog 89 #[.int .i64 x, .int .i64 y] W fun e w' => e = .returned (.int .i64 r) ∧ w' = W := by
  rcases Int.lt_trichotomy x y with h | h | h
  · exact ⟨-1, .inl ⟨rfl, h⟩, fun W => cmp_lt h W⟩
  · exact ⟨0, .inr (.inl ⟨rfl, h⟩), fun W => cmp_eq h W⟩
  · exact ⟨1, .inr (.inr ⟨rfl, h⟩), fun W => cmp_gt h W⟩
theorem bef_iff {a a2 b b2 : Int} : bef (a, a2) (b, b2) = true ↔ a < b ∨ (a = b ∧ a2 < b2) := by simp [bef]
theorem cmpT_bef {a a2 b b2 : Int} (h : bef (a, a2) (b, b2) = true) (w : World) : Calls Tryz.prog 85 #[.agg #[.int .i64 a, .int .i64 a2], .agg #[.int .i64 b, .int .i64 b2]] w fun e w' => Below w.heap.size w w' ∧ e = .returned (.int .i64 (-1)) := by
  obtain ⟨x, hx, c1⟩ := cmp_any a b
  obtain ⟨y, hy, c2⟩ := cmp_any a2 b2
  have h := bef_iff.1 h
  refine compareTies_of a a2 b b2 x y (-1) w c1 c2 ?_
  rcases hx with ⟨rfl, h1⟩ | ⟨rfl, h1⟩ | ⟨rfl, h1⟩
  · rfl
  · rcases hy with ⟨rfl, h2⟩ | ⟨rfl, h2⟩ | ⟨rfl, h2⟩
    · rfl
    · omega
    · omega
  · omega
theorem cmpT_not {a a2 b b2 : Int} (h : bef (a, a2) (b, b2) = false) : ∃ r : Int, 0 ≤ r ∧ ∀ w : World, Calls Tryz.prog 85 #[.agg #[.int .i64 a, .int .i64 a2], .agg #[.int .i64 b, .int .i64 b2]] w fun e w' => Below w.heap.size w w' ∧ e = .returned (.int .i64 r) := by
  obtain ⟨x, hx, c1⟩ := cmp_any a b
  obtain ⟨y, hy, c2⟩ := cmp_any a2 b2
  have h : ¬ (a < b ∨ (a = b ∧ a2 < b2)) := fun e => by rw [bef_iff.2 e] at h; cases h
  refine ⟨orI [x, y], ?_, fun w => compareTies_of a a2 b b2 x y _ w c1 c2 rfl⟩
  rcases hx with ⟨rfl, h1⟩ | ⟨rfl, h1⟩ | ⟨rfl, h1⟩
  · omega
  · rcases hy with ⟨rfl, h2⟩ | ⟨rfl, h2⟩ | ⟨rfl, h2⟩
    · omega
    · decide
    · decide
  · simp [orI]
set_option maxHeartbeats 1000000 in
theorem before_any (a a2 b b2 : Int) (w : World) : Calls Tryz.prog 87 #[.agg #[.int .i64 a, .int .i64 a2], .agg #[.int .i64 b, .int .i64 b2]] w fun e w' => Below w.heap.size w w' ∧ e = .returned (.bool (bef (a, a2) (b, b2))) := by
  by_cases h1 : a < b
  · go_enter Tryz.func87, Tryz.ntmps87
    go_wp2
    go_ret
    exact ⟨(by repeat (first | with_reducible exact Below.refl _ _ | with_reducible assumption | with_reducible refine Below.drew ?_ | with_reducible refine Below.drewN ?_ _ | with_reducible refine Below.alloc2 ?_ _ | with_reducible refine Below.alloc ?_ (by first | omega | (simp <;> omega)) _ | with_reducible refine Below.setCell ?_ (by first | omega | (simp <;> omega)) _ | with_reducible refine Below.step2 (by with_reducible assumption) ?_ | with_reducible refine Below.step (by with_reducible assumption) ?_ (by first | omega | (simp <;> omega)))), ret_bool (by simp [bef, h1])⟩
  · by_cases h2 : a = b
    · subst h2
      by_cases h3 : a2 < b2
      · go_enter Tryz.func87, Tryz.ntmps87
        go_wp2
        go_ret
        exact ⟨(by repeat (first | with_reducible exact Below.refl _ _ | with_reducible assumption | with_reducible refine Below.drew ?_ | with_reducible refine Below.drewN ?_ _ | with_reducible refine Below.alloc2 ?_ _ | with_reducible refine Below.alloc ?_ (by first | omega | (simp <;> omega)) _ | with_reducible refine Below.setCell ?_ (by first | omega | (simp <;> omega)) _ | with_reducible refine Below.step2 (by with_reducible assumption) ?_ | with_reducible refine Below.step (by with_reducible assumption) ?_ (by first | omega | (simp <;> omega)))), ret_bool (by simp [bef, h3])⟩
      · go_enter Tryz.func87, Tryz.ntmps87
        go_wp2
        go_ret
        exact ⟨(by repeat (first | with_reducible exact Below.refl _ _ | with_reducible assumption | with_reducible refine Below.drew ?_ | with_reducible refine Below.drewN ?_ _ | with_reducible refine Below.alloc2 ?_ _ | with_reducible refine Below.alloc ?_ (by first | omega | (simp <;> omega)) _ | with_reducible refine Below.setCell ?_ (by first | omega | (simp <;> omega)) _ | with_reducible refine Below.step2 (by with_reducible assumption) ?_ | with_reducible refine Below.step (by with_reducible assumption) ?_ (by first | omega | (simp <;> omega)))), ret_bool (by simp [bef, h3])⟩
    · have h2b : (a == b) = false := by simpa using h2
      go_enter Tryz.func87, Tryz.ntmps87
      go_wp2
      go_ret
      exact ⟨(by repeat (first | with_reducible exact Below.refl _ _ | with_reducible assumption | with_reducible refine Below.drew ?_ | with_reducible refine Below.drewN ?_ _ | with_reducible refine Below.alloc2 ?_ _ | with_reducible refine Below.alloc ?_ (by first | omega | (simp <;> omega)) _ | with_reducible refine Below.setCell ?_ (by first | omega | (simp <;> omega)) _ | with_reducible refine Below.step2 (by with_reducible assumption) ?_ | with_reducible refine Below.step (by with_reducible assumption) ?_ (by first | omega | (simp <;> omega)))), ret_bool (by simp [bef, h1, h2])⟩

/-- Ties that strictly ascend. -/
def ascT (l : List (Int × Int)) : Bool := decide (∀ j, j < l.length - 1 → bef (l.getD j (0, 0)) (l.getD (j + 1) (0, 0)) = true)
theorem ascT_iff {l : List (Int × Int)} : ascT l = true ↔ ∀ j, j < l.length - 1 → bef (l.getD j (0, 0)) (l.getD (j + 1) (0, 0)) = true := by unfold ascT; simp
theorem ascT_not {l : List (Int × Int)} {j : Nat} (hj : j < l.length - 1) (h : bef (l.getD j (0, 0)) (l.getD (j + 1) (0, 0)) = false) : ascT l = false := by
  rcases hr : ascT l
  · rfl
  · have := ascT_iff.1 hr j hj; rw [h] at this; cases this
theorem getT_of {l : List (Int × Int)} {k : Nat} {x : Int × Int} (h : l[k]? = some x) : l.getD k (0, 0) = x := by rw [List.getD_eq_getElem?_getD, h]; rfl
set_option maxHeartbeats 2000000 in
theorem ascend_ties (A : Option Addr) (n c : Nat) (l : List (Int × Int)) (w : World) (h : Pts w w.heap.size A n c l) :
    Calls Tryz.prog 84 #[.slice A n c, .func (.func 85) #[] #[]] w fun e w' => Below w.heap.size w w' ∧ e = .returned (.bool (ascT l)) := by
  have hcap := h.cap
  have hmax := h.max
  have HLEN := Lib.hid h.len
  have H : Hid (∀ w', Below w.heap.size w w' → Pts w' w.heap.size A n c l) := fun w' hb => h.below hb (Nat.le_refl _) (Nat.le_refl _)
  clear h
  go_enter Tryz.func84, Tryz.ntmps84
  go_wp2
  go_loopw [5] (fun i wr => ∃ k : Nat, (k + 1 ≤ n ∨ k = 0) ∧ i = .int .i64 ((k + 1 : Nat) : Int) ∧ Hid (∀ j, j < k → bef (l.getD j (0, 0)) (l.getD (j + 1) (0, 0)) = true) ∧ Below w.heap.size w wr) (fun i _ => n - (intOf i).toNat)
  case atStart => exact ⟨0, .inr rfl, rfl, (fun j hj => absurd hj (Nat.not_lt_zero _) : ∀ j, j < 0 → bef (l.getD j (0, 0)) (l.getD (j + 1) (0, 0)) = true), Below.refl _ _⟩
  case round =>
    obtain ⟨k, hk, rfl, hall, hb⟩ := hrel
    by_cases hlt : k + 1 < n
    · obtain ⟨b, o, ⟨x, x2⟩, rfl, hbb, hx, c0, c1⟩ := (H.out _ hb).at_ (show k < n by omega)
      obtain ⟨b', o', ⟨y, y2⟩, e, hbb', hy, d0, d1⟩ := (H.out _ hb).at_ hlt
      obtain ⟨rfl, rfl⟩ : b = b' ∧ o = o' := by simpa using e
      dsimp only at c0 c1 d0 d1
      have HC : Hid (∀ w', Below w.heap.size w w' → w'.cell? ⟨b, o + k * 2, none⟩ = some (.int .i64 x) ∧ w'.cell? ⟨b, o + k * 2 + 1, none⟩ = some (.int .i64 x2) ∧ w'.cell? ⟨b, o + (k + 1) * 2, none⟩ = some (.int .i64 y) ∧ w'.cell? ⟨b, o + (k + 1) * 2 + 1, none⟩ = some (.int .i64 y2)) := Lib.hid fun w' hb' =>
        have hk' := fun o' => ((bcell hb').1 b o' hbb).trans ((bcell hb).1 b o' hbb).symm
        ⟨(hk' _).trans c0, (hk' _).trans c1, (hk' _).trans d0, (hk' _).trans d1⟩
      have hw1 : IntKind.i64.wrap (((k + 1 : Nat) : Int) - 1) = (k : Int) := by rw [IntWalk.i64_in _ (by omega)]; omega
      have hw2 : IntKind.i64.wrap (((k : Nat) : Int) + 1 - 1) = (k : Int) := by rw [IntWalk.i64_in _ (by omega)]; omega
      have hw3 : IntKind.i64.wrap ((k : Nat) : Int) = (k : Int) := IntWalk.i64_in _ (by omega)
      have HX := Lib.hid (getT_of hx)
      have HY := Lib.hid (getT_of hy)
      have HB := Lib.hid hb
      have ow := hb.size
      have ob : b < wr.heap.size := by omega
      have z1 : (0 : Int) ≤ (k : Int) := by omega
      have z2 : (k : Int) < (n : Int) := by omega
      have z3 : (0 : Int) ≤ (k : Int) + 1 := by omega
      have z4 : (k : Int) + 1 < (n : Int) := by omega
      clear hb e hx hy hbb'
      rcases hbf : bef (x, x2) (y, y2)
      · obtain ⟨r, hr0, hc0⟩ := cmpT_not hbf
        have hc := Lib.hid hc0
        have HBF := Lib.hid hbf
        clear hbf hc0
        go_wp2
        go_region_held3 (fun w' => (w'.cell? ⟨b, o + k * 2, none⟩ = some (.int .i64 x) ∧ w'.cell? ⟨b, o + k * 2 + 1, none⟩ = some (.int .i64 x2)) ∧ w'.cell? ⟨b, o + (k + 1) * 2, none⟩ = some (.int .i64 y) ∧ w'.cell? ⟨b, o + (k + 1) * 2 + 1, none⟩ = some (.int .i64 y2)) (go_keep) ((go_at_call 85; refine (hc.out _).mono ?_; rintro e w1 ⟨hb1, rfl⟩; have HB1 : Hid (Below w.heap.size w w1) := Lib.hid (by have hb := HB.out; exact (by repeat (first | with_reducible exact Below.refl _ _ | with_reducible assumption | with_reducible refine Below.drew ?_ | with_reducible refine Below.drewN ?_ _ | with_reducible refine Below.alloc2 ?_ _ | with_reducible refine Below.alloc ?_ (by first | omega | (simp <;> omega)) _ | with_reducible refine Below.setCell ?_ (by first | omega | (simp <;> omega)) _ | with_reducible refine Below.step2 (by with_reducible assumption) ?_ | with_reducible refine Below.step (by with_reducible assumption) ?_ (by first | omega | (simp <;> omega))))); obtain ⟨u0, u1, u2, u3⟩ := HC.out _ HB1.out; clear hb1))
        go_wp2
        go_ret
        exact ⟨HB1.out, ret_bool (ascT_not (j := k) (by rw [HLEN.out]; omega) (by rw [HX.out, HY.out]; exact HBF.out)).symm⟩
      · have hc := Lib.hid (fun W => cmpT_bef hbf W)
        have HBF := Lib.hid hbf
        clear hbf
        go_wp2
        go_region_held3 (fun w' => (w'.cell? ⟨b, o + k * 2, none⟩ = some (.int .i64 x) ∧ w'.cell? ⟨b, o + k * 2 + 1, none⟩ = some (.int .i64 x2)) ∧ w'.cell? ⟨b, o + (k + 1) * 2, none⟩ = some (.int .i64 y) ∧ w'.cell? ⟨b, o + (k + 1) * 2 + 1, none⟩ = some (.int .i64 y2)) (go_keep) ((go_at_call 85; refine (hc.out _).mono ?_; rintro e w1 ⟨hb1, rfl⟩; have HB1 : Hid (Below w.heap.size w w1) := Lib.hid (by have hb := HB.out; exact (by repeat (first | with_reducible exact Below.refl _ _ | with_reducible assumption | with_reducible refine Below.drew ?_ | with_reducible refine Below.drewN ?_ _ | with_reducible refine Below.alloc2 ?_ _ | with_reducible refine Below.alloc ?_ (by first | omega | (simp <;> omega)) _ | with_reducible refine Below.setCell ?_ (by first | omega | (simp <;> omega)) _ | with_reducible refine Below.step2 (by with_reducible assumption) ?_ | with_reducible refine Below.step (by with_reducible assumption) ?_ (by first | omega | (simp <;> omega))))); obtain ⟨u0, u1, u2, u3⟩ := HC.out _ HB1.out; clear hb1))
        go_wp2
        go_roundw
        case rel =>
          refine ⟨k + 1, .inl (by omega), by go_num, (fun j hj => ?_ : ∀ j, j < k + 1 → bef (l.getD j (0, 0)) (l.getD (j + 1) (0, 0)) = true), HB1.out⟩
          rcases Nat.lt_or_ge j k with hj' | hj'
          · exact hall.out j hj'
          · obtain rfl : j = k := by omega
            rw [HX.out, HY.out]
            exact HBF.out
        case measure => simp [intOf]; omega
    · have HB := Lib.hid hb
      clear hb
      go_wp2
      go_ret
      exact ⟨HB.out, ret_bool (ascT_iff.2 (fun j hj => hall.out j (by rw [HLEN.out] at hj; omega))).symm⟩

end Go.Proofs.YtgljncfijcamhaaGreatDoor
