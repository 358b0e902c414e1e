/- Walks: doubleArea of both sides; direction of both sides. -/
import Derived.Test.YtbfbjpnmgcpjlaaPts
import Derived.WalkSpells
import Derived.Lib.MinMax
import Derived.Outline
namespace Go.Proofs.Ytbfbjpnmgcpjlaa
open Go.RowKit

set_option maxHeartbeats 1000000 in
theorem doubleArea_any (A : Option Addr) (n c : Nat) (l : List (Int × Int)) (w : World) (h : Pts w w.heap.size A n c l) (hn : n ≤ 100) (hin : l.all inP = true) :
    Calls Try.prog 52 #[.slice A n c] w fun e w' => Below w.heap.size w w' ∧ e = .returned (.int .i64 (twice l)) := by
  have hcap := h.cap
  have hmax := h.max
  have HLEN := Lib.hid h.len
  have HIN := Lib.hid hin
  have H : Hid (∀ w', Below w.heap.size w w' → Pts w' w.heap.size A n c l) := fun w' hb => h.below hb (Nat.le_refl _) (Nat.le_refl _)
  clear h hin
  go_enter Try.func52, Try.ntmps52
  go_wp2
  go_loopw [3, 9] (fun s i wr => ∃ k : Nat, k ≤ n ∧ i = .int .i64 k ∧ s = .int .i64 (twiceTo l k) ∧ Below w.heap.size w wr) (fun _ i _ => n - (intOf i).toNat)
  case atStart => exact ⟨0, Nat.zero_le _, rfl, rfl, Below.refl _ _⟩
  case round =>
    obtain ⟨k, hk, rfl, rfl, hb⟩ := hrel
    by_cases hlt : k < n
    · have hj : nx l k < n := by have := nx_lt (l := l) (k := k) (by rw [HLEN.out]; exact hlt); rwa [HLEN.out] at this
      obtain ⟨b, o, x, y, rfl, hbb, hx, c0, c1⟩ := (H.out _ hb).at_ hlt
      obtain ⟨b', o', u, v, e, hbb', hu, c2, c3⟩ := (H.out _ hb).at_ hj
      obtain ⟨rfl, rfl⟩ : b = b' ∧ o = o' := by simpa using e
      have p1 := pt_in HIN.out hx
      have p2 := pt_in HIN.out hu
      obtain ⟨⟨p11, p12⟩, p13, p14⟩ := p1
      obtain ⟨⟨p21, p22⟩, p23, p24⟩ := p2
      have m1 := mul_bd p11 p12 p23 p24
      have m2 := mul_bd p21 p22 p13 p14
      have hb1 := twiceTo_bd HIN.out k (by rw [HLEN.out]; exact hk)
      have hcr : Hid (twiceTo l (k + 1) = twiceTo l k + (x * v - u * y)) := by exact Lib.hid (by simp only [twiceTo, cross, pt_of hx, pt_of hu])
      have hmod := nx_mod hlt HLEN.out
      have hsz := hb.size
      have ob : b < wr.heap.size := by omega
      have HX := Lib.hid hx
      have HU := Lib.hid hu
      have HB := Lib.hid hb
      clear hx hu hb e
      generalize nx l k = j at *
      generalize twiceTo l k = T at *
      go_wp2
      go_roundw
      case rel =>
        have hb := HB.out
        exact ⟨k + 1, by omega, by go_num, by rw [hcr.out], (by repeat (first | with_reducible exact Below.refl _ _ | with_reducible assumption | with_reducible refine Below.drew ?_ | with_reducible refine Below.drewN ?_ _ | with_reducible refine Below.alloc2 ?_ _ | with_reducible refine Below.alloc ?_ (by first | omega | (simp <;> omega)) _ | with_reducible refine Below.setCell ?_ (by first | omega | (simp <;> omega)) _ | with_reducible refine Below.step2 (by with_reducible assumption) ?_ | with_reducible refine Below.step (by with_reducible assumption) ?_ (by first | omega | (simp <;> omega))))⟩
      case measure => simp [intOf]; omega
    · have e : k = n := by omega
      have HB := Lib.hid hb
      have HT : Hid (twiceTo l k = twice l) := Lib.hid (by unfold twice; rw [HLEN.out, e])
      clear hb e
      go_wp2
      go_ret
      exact ⟨HB.out, ret_int HT.out⟩

set_option maxHeartbeats 1000000 in
theorem direction_any (a b c d : Int) (w : World) : Calls Try.prog 83 #[.agg #[.int .i64 a, .int .i64 b], .agg #[.int .i64 c, .int .i64 d]] w fun e w' => Below w.heap.size w w' ∧ e = .returned (.int .i64 (dirP (a, b) (c, d))) := by
  unfold dirP
  by_cases h1 : b = d
  · subst h1
    by_cases h2 : a < c
    · rw [if_pos ⟨rfl, h2⟩]
      go_enter Try.func83, Try.ntmps83
      go_wp2
      go_ret
      exact ⟨(by repeat (first | with_reducible exact Below.refl _ _ | with_reducible assumption | with_reducible refine Below.drew ?_ | with_reducible refine Below.drewN ?_ _ | with_reducible refine Below.alloc2 ?_ _ | with_reducible refine Below.alloc ?_ (by first | omega | (simp <;> omega)) _ | with_reducible refine Below.setCell ?_ (by first | omega | (simp <;> omega)) _ | with_reducible refine Below.step2 (by with_reducible assumption) ?_ | with_reducible refine Below.step (by with_reducible assumption) ?_ (by first | omega | (simp <;> omega)))), rfl⟩
    · by_cases h3 : a = c
      · subst h3
        rw [if_neg (by simp), if_neg (by simp), if_neg (by simp), if_neg (by simp)]
        go_enter Try.func83, Try.ntmps83
        go_wp2
        go_ret
        exact ⟨(by repeat (first | with_reducible exact Below.refl _ _ | with_reducible assumption | with_reducible refine Below.drew ?_ | with_reducible refine Below.drewN ?_ _ | with_reducible refine Below.alloc2 ?_ _ | with_reducible refine Below.alloc ?_ (by first | omega | (simp <;> omega)) _ | with_reducible refine Below.setCell ?_ (by first | omega | (simp <;> omega)) _ | with_reducible refine Below.step2 (by with_reducible assumption) ?_ | with_reducible refine Below.step (by with_reducible assumption) ?_ (by first | omega | (simp <;> omega)))), rfl⟩
      · have h4 : c < a := by omega
        have h5 : (a == c) = false := by simpa using h3
        rw [if_neg (by simp; omega), if_neg (by simp), if_pos (by simp; omega)]
        clear h3
        go_enter Try.func83, Try.ntmps83
        go_wp2
        go_ret
        exact ⟨(by repeat (first | with_reducible exact Below.refl _ _ | with_reducible assumption | with_reducible refine Below.drew ?_ | with_reducible refine Below.drewN ?_ _ | with_reducible refine Below.alloc2 ?_ _ | with_reducible refine Below.alloc ?_ (by first | omega | (simp <;> omega)) _ | with_reducible refine Below.setCell ?_ (by first | omega | (simp <;> omega)) _ | with_reducible refine Below.step2 (by with_reducible assumption) ?_ | with_reducible refine Below.step (by with_reducible assumption) ?_ (by first | omega | (simp <;> omega)))), rfl⟩
  · have h5 : (b == d) = false := by simpa using h1
    by_cases h2 : a = c
    · subst h2
      rw [if_neg (by simp)]
      by_cases h3 : b < d
      · rw [if_pos (by simp; omega)]
        clear h1
        go_enter Try.func83, Try.ntmps83
        go_wp2
        go_ret
        exact ⟨(by repeat (first | with_reducible exact Below.refl _ _ | with_reducible assumption | with_reducible refine Below.drew ?_ | with_reducible refine Below.drewN ?_ _ | with_reducible refine Below.alloc2 ?_ _ | with_reducible refine Below.alloc ?_ (by first | omega | (simp <;> omega)) _ | with_reducible refine Below.setCell ?_ (by first | omega | (simp <;> omega)) _ | with_reducible refine Below.step2 (by with_reducible assumption) ?_ | with_reducible refine Below.step (by with_reducible assumption) ?_ (by first | omega | (simp <;> omega)))), rfl⟩
      · have h4 : d < b := by omega
        rw [if_neg (by simp; omega), if_neg (by simp), if_pos (by simp; omega)]
        clear h1
        go_enter Try.func83, Try.ntmps83
        go_wp2
        go_ret
        exact ⟨(by repeat (first | with_reducible exact Below.refl _ _ | with_reducible assumption | with_reducible refine Below.drew ?_ | with_reducible refine Below.drewN ?_ _ | with_reducible refine Below.alloc2 ?_ _ | with_reducible refine Below.alloc ?_ (by first | omega | (simp <;> omega)) _ | with_reducible refine Below.setCell ?_ (by first | omega | (simp <;> omega)) _ | with_reducible refine Below.step2 (by with_reducible assumption) ?_ | with_reducible refine Below.step (by with_reducible assumption) ?_ (by first | omega | (simp <;> omega)))), rfl⟩
    · have h6 : (a == c) = false := by simpa using h2
      rw [if_neg (by simp; omega), if_neg (by simp; omega), if_neg (by simp; omega), if_neg (by simp; omega)]
      clear h1 h2
      go_enter Try.func83, Try.ntmps83
      go_wp2
      go_ret
      exact ⟨(by repeat (first | with_reducible exact Below.refl _ _ | with_reducible assumption | with_reducible refine Below.drew ?_ | with_reducible refine Below.drewN ?_ _ | with_reducible refine Below.alloc2 ?_ _ | with_reducible refine Below.alloc ?_ (by first | omega | (simp <;> omega)) _ | with_reducible refine Below.setCell ?_ (by first | omega | (simp <;> omega)) _ | with_reducible refine Below.step2 (by with_reducible assumption) ?_ | with_reducible refine Below.step (by with_reducible assumption) ?_ (by first | omega | (simp <;> omega)))), rfl⟩

set_option maxHeartbeats 1000000 in
theorem refDir_any (a b c d : Int) (w : World) : Calls Try.prog 55 #[.agg #[.int .i64 a, .int .i64 b], .agg #[.int .i64 c, .int .i64 d]] w fun e w' => Below w.heap.size w w' ∧ e = .returned (.int .i64 (dirP (a, b) (c, d))) := by
  unfold dirP
  by_cases h1 : b = d
  · subst h1
    by_cases h2 : a < c
    · rw [if_pos ⟨rfl, h2⟩]
      go_enter Try.func55, Try.ntmps55
      go_wp2
      go_ret
      exact ⟨(by repeat (first | with_reducible exact Below.refl _ _ | with_reducible assumption | with_reducible refine Below.drew ?_ | with_reducible refine Below.drewN ?_ _ | with_reducible refine Below.alloc2 ?_ _ | with_reducible refine Below.alloc ?_ (by first | omega | (simp <;> omega)) _ | with_reducible refine Below.setCell ?_ (by first | omega | (simp <;> omega)) _ | with_reducible refine Below.step2 (by with_reducible assumption) ?_ | with_reducible refine Below.step (by with_reducible assumption) ?_ (by first | omega | (simp <;> omega)))), rfl⟩
    · by_cases h3 : a = c
      · subst h3
        rw [if_neg (by simp), if_neg (by simp), if_neg (by simp), if_neg (by simp)]
        go_enter Try.func55, Try.ntmps55
        go_wp2
        go_ret
        exact ⟨(by repeat (first | with_reducible exact Below.refl _ _ | with_reducible assumption | with_reducible refine Below.drew ?_ | with_reducible refine Below.drewN ?_ _ | with_reducible refine Below.alloc2 ?_ _ | with_reducible refine Below.alloc ?_ (by first | omega | (simp <;> omega)) _ | with_reducible refine Below.setCell ?_ (by first | omega | (simp <;> omega)) _ | with_reducible refine Below.step2 (by with_reducible assumption) ?_ | with_reducible refine Below.step (by with_reducible assumption) ?_ (by first | omega | (simp <;> omega)))), rfl⟩
      · have h4 : c < a := by omega
        have h5 : (a == c) = false := by simpa using h3
        rw [if_neg (by simp; omega), if_neg (by simp), if_pos (by simp; omega)]
        clear h3
        go_enter Try.func55, Try.ntmps55
        go_wp2
        go_ret
        exact ⟨(by repeat (first | with_reducible exact Below.refl _ _ | with_reducible assumption | with_reducible refine Below.drew ?_ | with_reducible refine Below.drewN ?_ _ | with_reducible refine Below.alloc2 ?_ _ | with_reducible refine Below.alloc ?_ (by first | omega | (simp <;> omega)) _ | with_reducible refine Below.setCell ?_ (by first | omega | (simp <;> omega)) _ | with_reducible refine Below.step2 (by with_reducible assumption) ?_ | with_reducible refine Below.step (by with_reducible assumption) ?_ (by first | omega | (simp <;> omega)))), rfl⟩
  · have h5 : (b == d) = false := by simpa using h1
    by_cases h2 : a = c
    · subst h2
      rw [if_neg (by simp)]
      by_cases h3 : b < d
      · rw [if_pos (by simp; omega)]
        clear h1
        go_enter Try.func55, Try.ntmps55
        go_wp2
        go_ret
        exact ⟨(by repeat (first | with_reducible exact Below.refl _ _ | with_reducible assumption | with_reducible refine Below.drew ?_ | with_reducible refine Below.drewN ?_ _ | with_reducible refine Below.alloc2 ?_ _ | with_reducible refine Below.alloc ?_ (by first | omega | (simp <;> omega)) _ | with_reducible refine Below.setCell ?_ (by first | omega | (simp <;> omega)) _ | with_reducible refine Below.step2 (by with_reducible assumption) ?_ | with_reducible refine Below.step (by with_reducible assumption) ?_ (by first | omega | (simp <;> omega)))), rfl⟩
      · have h4 : d < b := by omega
        rw [if_neg (by simp; omega), if_neg (by simp), if_pos (by simp; omega)]
        clear h1
        go_enter Try.func55, Try.ntmps55
        go_wp2
        go_ret
        exact ⟨(by repeat (first | with_reducible exact Below.refl _ _ | with_reducible assumption | with_reducible refine Below.drew ?_ | with_reducible refine Below.drewN ?_ _ | with_reducible refine Below.alloc2 ?_ _ | with_reducible refine Below.alloc ?_ (by first | omega | (simp <;> omega)) _ | with_reducible refine Below.setCell ?_ (by first | omega | (simp <;> omega)) _ | with_reducible refine Below.step2 (by with_reducible assumption) ?_ | with_reducible refine Below.step (by with_reducible assumption) ?_ (by first | omega | (simp <;> omega)))), rfl⟩
    · have h6 : (a == c) = false := by simpa using h2
      rw [if_neg (by simp; omega), if_neg (by simp; omega), if_neg (by simp; omega), if_neg (by simp; omega)]
      clear h1 h2
      go_enter Try.func55, Try.ntmps55
      go_wp2
      go_ret
      exact ⟨(by repeat (first | with_reducible exact Below.refl _ _ | with_reducible assumption | with_reducible refine Below.drew ?_ | with_reducible refine Below.drewN ?_ _ | with_reducible refine Below.alloc2 ?_ _ | with_reducible refine Below.alloc ?_ (by first | omega | (simp <;> omega)) _ | with_reducible refine Below.setCell ?_ (by first | omega | (simp <;> omega)) _ | with_reducible refine Below.step2 (by with_reducible assumption) ?_ | with_reducible refine Below.step (by with_reducible assumption) ?_ (by first | omega | (simp <;> omega)))), rfl⟩

end Go.Proofs.Ytbfbjpnmgcpjlaa
