/- Chapter 6, walks: the reference's holds and Demands. -/
import Derived.Test.YtgljncfijcamhaaGreatDoorHeld6
namespace Go.Proofs.YtgljncfijcamhaaGreatDoor
open Go.RowKit

theorem ansIn_eq {lv : List Int} {ev sk h L : Int} {i X1 X2 : Nat} (hL : lv[X2]? = some L) :
    ansIn lv ev sk i h ((X1 : Int), (X2 : Int)) = (decide ((i : Int) - sk ≤ (X1 : Int) ∧ (X1 : Int) ≤ (i : Int) + sk) && (decide (h < L) && decide (L ≤ h + ev))) := by
  simp only [ansIn, Int.toNat_natCast, getD_of hL]
  have e1 : decide (0 < L - h) = decide (h < L) := by by_cases q : h < L <;> simp [q] <;> omega
  have e2 : decide (L - h ≤ ev) = decide (L ≤ h + ev) := by by_cases q : L ≤ h + ev <;> simp [q] <;> omega
  have e3 : decide (absD X1 i ≤ sk) = decide ((i : Int) - sk ≤ (X1 : Int) ∧ (X1 : Int) ≤ (i : Int) + sk) := by
    unfold absD
    by_cases q : (i : Int) - sk ≤ (X1 : Int) ∧ (X1 : Int) ≤ (i : Int) + sk
    · rw [decide_eq_true q]; exact decide_eq_true (by omega)
    · rw [decide_eq_false q]; exact decide_eq_false (by omega)
  rw [e1, e2, e3]
  cases decide (h < L) <;> cases decide (L ≤ h + ev) <;> cases decide ((i : Int) - sk ≤ (X1 : Int) ∧ (X1 : Int) ≤ (i : Int) + sk) <;> rfl
set_option maxHeartbeats 2000000 in
theorem refHolds_any (f : Int) (A A2 : Option Addr) (n c m c2 : Nat) (ev fr sk ma st : Int) (h : Int) (i X1 X2 : Nat) (lv : List Int) (w : World) (hl : Nums w w.heap.size A2 m c2 lv) (h2 : X2 < m) (hi : i ≤ 60) (hh1 : 0 ≤ h) (hh2 : h ≤ 1000000) (bl : allIn 1 1000000 lv = true) (he : 1 ≤ ev ∧ ev ≤ 1000000) (hs : 0 ≤ sk ∧ sk ≤ 10) :
    Calls Tryz.prog 50 #[.agg #[.int .i64 f, .slice A n c, .slice A2 m c2], .agg #[.int .i64 ev, .int .i64 fr, .int .i64 sk, .int .i64 ma, .int .i64 st], .agg #[.int .i64 (X1 : Int), .int .i64 (X2 : Int)], .int .i64 (i : Int), .int .i64 h] w fun e w' => Below w.heap.size w w' ∧ e = .returned (.bool (ansIn lv ev sk i h ((X1 : Int), (X2 : Int)))) := by
  obtain ⟨b, o, L, rfl, hb, hL, c0⟩ := hl.at_ h2
  have hLb := List.all_eq_true.1 bl L (List.mem_of_getElem? hL)
  simp only [decide_eq_true_eq] at hLb
  have hD := ansIn_eq (ev := ev) (sk := sk) (h := h) (i := i) (X1 := X1) hL
  have WI := Lib.hid (fun W => within_any (X1 : Int) ((i : Int) - sk) ((i : Int) + sk) W)
  generalize decide ((i : Int) - sk ≤ (X1 : Int) ∧ (X1 : Int) ≤ (i : Int) + sk) = D at hD WI
  have HD := Lib.hid hD
  have hw1 : IntKind.i64.wrap ((i : Int) - sk) = (i : Int) - sk := IntWalk.i64_in _ (by omega)
  have hw2 : IntKind.i64.wrap ((i : Int) + sk) = (i : Int) + sk := IntWalk.i64_in _ (by omega)
  have hw3 : IntKind.i64.wrap (h + ev) = h + ev := IntWalk.i64_in _ (by omega)
  have z1 : (0 : Int) ≤ (X2 : Int) := by omega
  have z2 : (X2 : Int) < (m : Int) := by omega
  have ob1 : b < w.heap.size + 1 := by omega
  have ob2 : b < w.heap.size + 1 + 1 := by omega
  clear hl hL bl hD
  cases D
  · (
        go_enter Tryz.func50, Tryz.ntmps50
        go_wp2_with (go_at_call 24; with_reducible refine (WI.out _).mono ?_; rintro e w1 ⟨rfl, rfl⟩)
        go_ret
        exact ⟨(by repeat (first | with_reducible exact Below.refl _ _ | with_reducible assumption | with_reducible refine Below.drew ?_ | with_reducible refine Below.drewN ?_ _ | with_reducible refine Below.alloc2 ?_ _ | with_reducible refine Below.alloc ?_ (by first | omega | (simp <;> omega)) _ | with_reducible refine Below.setCell ?_ (by first | omega | (simp <;> omega)) _ | with_reducible refine Below.step2 (by with_reducible assumption) ?_ | with_reducible refine Below.step (by with_reducible assumption) ?_ (by first | omega | (simp <;> omega)))), ret_bool (by rw [HD.out]; simp [*] <;> omega)⟩)
  · by_cases q1 : h < L
    · by_cases q2 : L ≤ h + ev
      · (
            go_enter Tryz.func50, Tryz.ntmps50
            go_wp2_with (go_at_call 24; with_reducible refine (WI.out _).mono ?_; rintro e w1 ⟨rfl, rfl⟩)
            go_ret
            exact ⟨(by repeat (first | with_reducible exact Below.refl _ _ | with_reducible assumption | with_reducible refine Below.drew ?_ | with_reducible refine Below.drewN ?_ _ | with_reducible refine Below.alloc2 ?_ _ | with_reducible refine Below.alloc ?_ (by first | omega | (simp <;> omega)) _ | with_reducible refine Below.setCell ?_ (by first | omega | (simp <;> omega)) _ | with_reducible refine Below.step2 (by with_reducible assumption) ?_ | with_reducible refine Below.step (by with_reducible assumption) ?_ (by first | omega | (simp <;> omega)))), ret_bool (by rw [HD.out]; simp [*] <;> omega)⟩)
      · (
            go_enter Tryz.func50, Tryz.ntmps50
            go_wp2_with (go_at_call 24; with_reducible refine (WI.out _).mono ?_; rintro e w1 ⟨rfl, rfl⟩)
            go_ret
            exact ⟨(by repeat (first | with_reducible exact Below.refl _ _ | with_reducible assumption | with_reducible refine Below.drew ?_ | with_reducible refine Below.drewN ?_ _ | with_reducible refine Below.alloc2 ?_ _ | with_reducible refine Below.alloc ?_ (by first | omega | (simp <;> omega)) _ | with_reducible refine Below.setCell ?_ (by first | omega | (simp <;> omega)) _ | with_reducible refine Below.step2 (by with_reducible assumption) ?_ | with_reducible refine Below.step (by with_reducible assumption) ?_ (by first | omega | (simp <;> omega)))), ret_bool (by rw [HD.out]; simp [*] <;> omega)⟩)
    · (
          go_enter Tryz.func50, Tryz.ntmps50
          go_wp2_with (go_at_call 24; with_reducible refine (WI.out _).mono ?_; rintro e w1 ⟨rfl, rfl⟩)
          go_ret
          exact ⟨(by repeat (first | with_reducible exact Below.refl _ _ | with_reducible assumption | with_reducible refine Below.drew ?_ | with_reducible refine Below.drewN ?_ _ | with_reducible refine Below.alloc2 ?_ _ | with_reducible refine Below.alloc ?_ (by first | omega | (simp <;> omega)) _ | with_reducible refine Below.setCell ?_ (by first | omega | (simp <;> omega)) _ | with_reducible refine Below.step2 (by with_reducible assumption) ?_ | with_reducible refine Below.step (by with_reducible assumption) ?_ (by first | omega | (simp <;> omega)))), ret_bool (by rw [HD.out]; simp [*] <;> omega)⟩)

def mkDem (lv : List Int) (ev sk : Int) (l : List (Int × Int)) (k0 i : Nat) (h : Int) : Dem := ⟨i, h, ansTo lv ev sk i h l k0⟩
theorem demRow_map {lv hs : List Int} {ev sk : Int} {l : List (Int × Int)} {k0 i : Nat} : ∀ {j : Nat}, j ≤ hs.length → demRow lv hs ev sk l k0 i j = (hs.take j).map (mkDem lv ev sk l k0 i)
  | 0, _ => by simp [demRow]
  | j + 1, hj => by
    rw [List.take_succ_eq_append_getElem hj, List.map_append, ← demRow_map (j := j) (by omega)]
    simp [demRow, mkDem, List.getD_eq_getElem?_getD, List.getElem?_eq_getElem hj]

end Go.Proofs.YtgljncfijcamhaaGreatDoor
