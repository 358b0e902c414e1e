/- Walks of the reference: next, twice, Abs, Area. -/
import Derived.Test.YtbfbjpnmgcpjlaaCheckOut
namespace Go.Proofs.Ytbfbjpnmgcpjlaa
open Go.RowKit

set_option maxHeartbeats 1000000 in
theorem next_any (A : Option Addr) (n c k : Nat) (l : List (Int × Int)) (w : World) (h : Pts w w.heap.size A n c l) (hk : k < n) :
    Calls Try.prog 56 #[.slice A n c, .int .i64 (k : Int)] w fun e w' => Below w.heap.size w w' ∧ e = .returned (.agg #[.int .i64 (pt l (nx l k)).1, .int .i64 (pt l (nx l k)).2]) := by
  have hcap := h.cap
  have hmax := h.max
  have hl := h.len
  have hj : nx l k < n := by have := nx_lt (l := l) (k := k) (by rw [hl]; exact hk); rwa [hl] at this
  obtain ⟨b, o, x, y, rfl, hbb, hx, c0, c1⟩ := h.at_ hj
  have hmod := nx_mod hk hl
  have hn0 : ¬ n = 0 := by omega
  rw [pt_of hx]
  clear hx h hl
  generalize nx l k = j at *
  have ob : b < w.heap.size + 1 := by omega
  go_enter Try.func56, Try.ntmps56
  go_wp2
  refine bodyPost_ret (v := .agg #[.int .i64 x, .int .i64 y]) (by simp [results, Try.results56, go_sem]) rfl ⟨(by repeat (first | with_reducible exact Below.refl _ _ | with_reducible assumption | with_reducible refine Below.drew ?_ | with_reducible refine Below.drewN ?_ _ | with_reducible refine Below.alloc2 ?_ _ | with_reducible refine Below.alloc ?_ (by first | omega | (simp <;> omega)) _ | with_reducible refine Below.setCell ?_ (by first | omega | (simp <;> omega)) _ | with_reducible refine Below.step2 (by with_reducible assumption) ?_ | with_reducible refine Below.step (by with_reducible assumption) ?_ (by first | omega | (simp <;> omega)))), rfl⟩

/-- The size of a number. -/
def absI (x : Int) : Int := max x (-x)
set_option maxHeartbeats 400000 in
theorem abs_any (x : Int) (w : World) (h1 : -9000000000000000000 ≤ x) (h2 : x ≤ 9000000000000000000) : Calls Try.prog 35 #[.int .i64 x] w fun e w' => w = w' ∧ e = .returned (.int .i64 (absI x)) := by
  unfold absI
  by_cases h : x < 0
  all_goals
    go_enter Try.func35, Try.ntmps35
    go_wp2
    go_ret
    exact ⟨rfl, ret_int (by omega)⟩

set_option maxRecDepth 100000 in
set_option maxHeartbeats 2000000 in
theorem refTwice_any (A : Option Addr) (n c : Nat) (l : List (Int × Int)) (w : World) (h : Pts w w.heap.size A n c l) (hn : n ≤ 100) (hin : l.all inP = true) :
    Calls Try.prog 58 #[.slice A n c] w fun e w' => Below w.heap.size w w' ∧ e = .returned (.int .i64 (twice l)) := by
  have hcap := h.cap
  have hmax := h.max
  have HLEN := Lib.hid h.len
  have HIN := Lib.hid hin
  have H : Hid (∀ w', Below w.heap.size w w' → Pts w' w'.heap.size A n c l) := fun w' hb => h.below hb (Nat.le_refl _) hb.size
  clear h hin
  go_enter Try.func58, Try.ntmps58
  go_wp2
  go_loopw [3, 4] (fun s i wr => ∃ k : Nat, k ≤ n ∧ i = .int .i64 k ∧ s = .int .i64 (twiceTo l k) ∧ Below w.heap.size w wr) (fun _ i _ => n - (intOf i).toNat)
  case atStart => exact ⟨0, Nat.zero_le _, rfl, rfl, Below.refl _ _⟩
  case round =>
    obtain ⟨k, hk, rfl, rfl, hb⟩ := hrel
    by_cases hlt : k < n
    · have hj : nx l k < n := by have := nx_lt (l := l) (k := k) (by rw [HLEN.out]; exact hlt); rwa [HLEN.out] at this
      obtain ⟨b, o, x, y, rfl, hbb, hx, c0, c1⟩ := (H.out _ hb).at_ hlt
      obtain ⟨b', o', u, v, e, hbb', hu, -, -⟩ := (H.out _ hb).at_ hj
      obtain ⟨⟨p11, p12⟩, p13, p14⟩ := pt_in HIN.out hx
      obtain ⟨⟨p21, p22⟩, p23, p24⟩ := pt_in HIN.out hu
      have m1 := mul_bd p11 p12 p23 p24
      have m2 := mul_bd p13 p14 p21 p22
      obtain ⟨m11, m12⟩ := m1
      obtain ⟨m21, m22⟩ := m2
      have hb1 := twiceTo_bd HIN.out k (by rw [HLEN.out]; exact hk)
      have hcr : Hid (twiceTo l (k + 1) = twiceTo l k + x * v - y * u) := Lib.hid (by simp only [twiceTo, cross, pt_of hx, pt_of hu]; rw [Int.mul_comm u y]; omega)
      have hnx := next_any (some ⟨b, o, none⟩) n c k l wr (H.out _ hb) hlt
      rw [pt_of hu] at hnx
      have HNX := Lib.hid hnx
      have HB := Lib.hid hb
      have ow := hb.size
      have hw1 : IntKind.i64.wrap (x * v) = x * v := IntWalk.i64_in _ (by omega)
      have hw2 : IntKind.i64.wrap (y * u) = y * u := IntWalk.i64_in _ (by omega)
      have hw3 : IntKind.i64.wrap (twiceTo l k + x * v) = twiceTo l k + x * v := IntWalk.i64_in _ (by omega)
      have hw4 : IntKind.i64.wrap (twiceTo l k + x * v - y * u) = twiceTo l k + x * v - y * u := IntWalk.i64_in _ (by omega)
      clear hx hu hb e hnx hbb'
      generalize twiceTo l k = T at *
      go_wp2_with fail
      refine HNX.out.mono ?_
      rintro e w1 ⟨hb1, rfl⟩
      obtain ⟨hc1, -⟩ := bcell hb1
      have hz1 := hb1.size
      have d0 := (hc1 _ _ hbb).trans c0
      have d1 := (hc1 _ _ hbb).trans c1
      have ob1 : b < w1.heap.size := by omega
      have HB1 := Lib.hid hb1
      clear hb1 hc1 c0 c1
      go_wp2
      go_quiet (fail)
      go_wp2
      go_roundw
      case rel =>
        have hb := HB.out
        have hb1 := HB1.out
        exact ⟨k + 1, by omega, by go_num, by rw [hcr.out], (by repeat (first | with_reducible exact Below.refl _ _ | with_reducible assumption | with_reducible refine Below.drew ?_ | with_reducible refine Below.drewN ?_ _ | with_reducible refine Below.alloc2 ?_ _ | with_reducible refine Below.alloc ?_ (by first | omega | (simp <;> omega)) _ | with_reducible refine Below.setCell ?_ (by first | omega | (simp <;> omega)) _ | with_reducible refine Below.step2 (by with_reducible assumption) ?_ | with_reducible refine Below.step (by with_reducible assumption) ?_ (by first | omega | (simp <;> omega))))⟩
      case measure => simp [intOf]; omega
    · have e : k = n := by omega
      have HB := Lib.hid hb
      have HT : Hid (twiceTo l k = twice l) := Lib.hid (by unfold twice; rw [HLEN.out, e])
      clear hb e
      go_wp2
      go_ret
      exact ⟨HB.out, ret_int HT.out⟩

set_option maxHeartbeats 1000000 in
theorem refArea_any (A : Option Addr) (n c : Nat) (l : List (Int × Int)) (w : World) (h : Pts w w.heap.size A n c l) (hn : n ≤ 100) (hin : l.all inP = true) :
    Calls Try.prog 27 #[.slice A n c] w fun e w' => Below w.heap.size w w' ∧ e = .returned (.int .i64 ((twice l).tdiv 2)) := by
  have HT := Lib.hid (refTwice_any A n c l w h hn hin)
  have hbd := twiceTo_bd hin l.length (Nat.le_refl _)
  have hl := h.len
  have hb2 : twice l ≤ 200000000000000 := by unfold twice; omega
  have hb3 : -200000000000000 ≤ twice l := by unfold twice; omega
  generalize twice l = T at *
  clear h hin hbd
  go_enter Try.func27, Try.ntmps27
  go_wp2_with fail
  refine HT.out.mono ?_
  rintro e w1 ⟨hb, rfl⟩
  go_wp2
  go_ret
  refine ⟨hb, ret_int ?_⟩
  first
    | rfl
    | (have hw : IntKind.i64.wrap (T.tdiv 2) = T.tdiv 2 := IntWalk.i64_in _ (by omega)
       exact hw)

end Go.Proofs.Ytbfbjpnmgcpjlaa
