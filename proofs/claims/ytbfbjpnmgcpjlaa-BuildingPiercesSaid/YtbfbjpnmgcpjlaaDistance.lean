/- Walks: outlineAndPlaceError, Where, Distance. -/
import Derived.Test.YtbfbjpnmgcpjlaaWhere
namespace Go.Proofs.Ytbfbjpnmgcpjlaa
open Go.RowKit

def opErr (l : List (Int × Int)) (x y : Int) : Int := if outErr l = 0 then placeErr x y else outErr l
theorem placeErr_ok {x y : Int} (h : placeErr x y = 0) : (-1000000 ≤ x ∧ x ≤ 1000000) ∧ -1000000 ≤ y ∧ y ≤ 1000000 := by
  unfold placeErr at h
  split at h
  · rename_i e; exact inP_iff.1 e
  · omega
theorem allB_sides {l : List (Int × Int)} (h : l.all inP = true) : AllB (sides l) := by
  intro k hk
  rw [sides_length] at hk
  rw [sides_sd hk]
  have g1 := List.getElem?_eq_getElem hk
  have g2 := List.getElem?_eq_getElem (nx_lt hk)
  have p1 := pt_in h (x := l[k].1) (y := l[k].2) g1
  have p2 := pt_in h (x := (l[nx l k]'(nx_lt hk)).1) (y := (l[nx l k]'(nx_lt hk)).2) g2
  unfold sideK
  rw [pt_of (x := l[k].1) (y := l[k].2) g1, pt_of (x := (l[nx l k]'(nx_lt hk)).1) (y := (l[nx l k]'(nx_lt hk)).2) g2]
  exact ⟨p1.1, p1.2, p2.1, p2.2, by unfold sideOf gap; simp only; omega⟩

set_option maxHeartbeats 1000000 in
theorem opError_any (A : Option Addr) (n c : Nat) (l : List (Int × Int)) (x y : Int) (w : World) (h : Pts w w.heap.size A n c l) :
    Calls Try.prog 62 #[.slice A n c, .agg #[.int .i64 x, .int .i64 y]] w fun e w' => Below w.heap.size w w' ∧ e = .returned (.int .i64 (opErr l x y)) := by
  have H : Hid (∀ w', Below w.heap.size w w' → Pts w' w'.heap.size A n c l) := fun w' hb => h.below hb (Nat.le_refl _) hb.size
  have HC := Lib.hid (fun (W : World) (hp : Pts W W.heap.size A n c l) => checkOutline_any A n c l W hp)
  have HP := Lib.hid (fun W : World => placeError_any x y W)
  unfold opErr
  generalize placeErr x y = F at *
  clear h
  by_cases ho : outErr l = 0
  · rw [if_pos ho]
    rw [ho] at HC
    clear ho
    go_enter Try.func62, Try.ntmps62
    go_wp2_with fail
    refine (HC.out _ (H.out _ (by repeat (first | with_reducible exact Below.refl _ _ | with_reducible assumption | with_reducible refine Below.drew ?_ | with_reducible refine Below.drewN ?_ _ | with_reducible refine Below.alloc2 ?_ _ | with_reducible refine Below.alloc ?_ (by first | omega | (simp <;> omega)) _ | with_reducible refine Below.setCell ?_ (by first | omega | (simp <;> omega)) _ | with_reducible refine Below.step2 (by with_reducible assumption) ?_ | with_reducible refine Below.step (by with_reducible assumption) ?_ (by first | omega | (simp <;> omega)))))).mono ?_
    rintro e w1 ⟨hb1, rfl⟩; obtain ⟨hc1, hf1⟩ := bcell hb1; have hz1 := hb1.size; (try simp at hz1)
    have oA1 : w.heap.size < w1.heap.size := by omega
    go_wp2_with fail
    refine (HP.out _).mono ?_
    rintro e w2 ⟨hb2, rfl⟩; obtain ⟨hc2, hf2⟩ := bcell hb2; have hz2 := hb2.size; (try simp at hz2)
    go_wp2
    go_ret
    exact ⟨(by repeat (first | with_reducible exact Below.refl _ _ | with_reducible assumption | with_reducible refine Below.drew ?_ | with_reducible refine Below.drewN ?_ _ | with_reducible refine Below.alloc2 ?_ _ | with_reducible refine Below.alloc ?_ (by first | omega | (simp <;> omega)) _ | with_reducible refine Below.setCell ?_ (by first | omega | (simp <;> omega)) _ | with_reducible refine Below.step2 (by with_reducible assumption) ?_ | with_reducible refine Below.step (by with_reducible assumption) ?_ (by first | omega | (simp <;> omega)))), rfl⟩
  · rw [if_neg ho]
    have hne : (outErr l != 0) = true := by simpa using ho
    generalize outErr l = E at *
    clear ho
    go_enter Try.func62, Try.ntmps62
    go_wp2_with fail
    refine (HC.out _ (H.out _ (by repeat (first | with_reducible exact Below.refl _ _ | with_reducible assumption | with_reducible refine Below.drew ?_ | with_reducible refine Below.drewN ?_ _ | with_reducible refine Below.alloc2 ?_ _ | with_reducible refine Below.alloc ?_ (by first | omega | (simp <;> omega)) _ | with_reducible refine Below.setCell ?_ (by first | omega | (simp <;> omega)) _ | with_reducible refine Below.step2 (by with_reducible assumption) ?_ | with_reducible refine Below.step (by with_reducible assumption) ?_ (by first | omega | (simp <;> omega)))))).mono ?_
    rintro e w1 ⟨hb1, rfl⟩; obtain ⟨hc1, hf1⟩ := bcell hb1; have hz1 := hb1.size; (try simp at hz1)
    go_wp2
    go_ret
    exact ⟨(by repeat (first | with_reducible exact Below.refl _ _ | with_reducible assumption | with_reducible refine Below.drew ?_ | with_reducible refine Below.drewN ?_ _ | with_reducible refine Below.alloc2 ?_ _ | with_reducible refine Below.alloc ?_ (by first | omega | (simp <;> omega)) _ | with_reducible refine Below.setCell ?_ (by first | omega | (simp <;> omega)) _ | with_reducible refine Below.step2 (by with_reducible assumption) ?_ | with_reducible refine Below.step (by with_reducible assumption) ?_ (by first | omega | (simp <;> omega)))), rfl⟩

/-- The least of d0 and the distances from the first k sides. -/
def leastTo (ss : List Side) (x y : Int) : Nat → Int
  | 0 => distS (sd ss 0) x y
  | k + 1 => min (leastTo ss x y k) (distS (sd ss k) x y)
theorem leastTo_bd {ss : List Side} {x y : Int} (hB : AllB ss) (h0 : 0 < ss.length) (hx : -1000000 ≤ x ∧ x ≤ 1000000) (hy : -1000000 ≤ y ∧ y ≤ 1000000) : ∀ k, k ≤ ss.length → 0 ≤ leastTo ss x y k ∧ leastTo ss x y k ≤ 100000000000000
  | 0, _ => distS_bd (hB 0 h0) hx hy
  | k + 1, hk => by
    have a := leastTo_bd hB h0 hx hy k (by omega)
    have b := distS_bd (hB k (by omega)) hx hy
    simp only [leastTo]
    omega
/-- The square of a place's distance from a region. -/
def distR (ss : List Side) (x y : Int) : Int := if 0 ≤ whereS ss x y then 0 else leastTo ss x y ss.length

set_option maxHeartbeats 1000000 in
theorem Where_any (A : Option Addr) (n c : Nat) (l : List (Int × Int)) (x y : Int) (w : World) (h : Pts w w.heap.size A n c l) :
    Calls Try.prog 30 #[.slice A n c, .agg #[.int .i64 x, .int .i64 y]] w fun e w' => Below w.heap.size w w' ∧
      e = .returned (.tuple #[.int .i64 (if opErr l x y = 0 then whereS (sides l) x y else 0), .int .i64 (opErr l x y)]) := by
  have HLEN := Lib.hid h.len
  have H : Hid (∀ w', Below w.heap.size w w' → Pts w' w'.heap.size A n c l) := fun w' hb => h.below hb (Nat.le_refl _) hb.size
  have HC := Lib.hid (fun (W : World) (hp : Pts W W.heap.size A n c l) => opError_any A n c l x y W hp)
  clear h
  by_cases ho : opErr l x y = 0
  · rw [if_pos ho, ho]
    rw [ho] at HC
    have h1 : outErr l = 0 := by
      unfold opErr at ho
      split at ho
      · assumption
      · omega
    have h2 : placeErr x y = 0 := by unfold opErr at ho; rwa [if_pos h1] at ho
    obtain ⟨h4, h40, hin, -, -, hT⟩ := outErr_ok h1
    obtain ⟨hx, hy⟩ := placeErr_ok h2
    have HS := Lib.hid (fun (W : World) (hp : Pts W W.heap.size A n c l) => sides_any A n c l W hp hin (by rw [← HLEN.out]; omega))
    have HW := Lib.hid (fun (A1 : Option Addr) (W : World) (hw : Walls W W.heap.size A1 n n (sides l)) => where_any A1 n n (sides l) x y W hw (allB_sides hin) hx hy)
    generalize whereS (sides l) x y = R at *
    clear ho h1 h2 hx hy h4 h40 hin hT
    go_enter Try.func30, Try.ntmps30
    go_wp2_with fail
    refine (HC.out _ (H.out _ (by repeat (first | with_reducible exact Below.refl _ _ | with_reducible assumption | with_reducible refine Below.drew ?_ | with_reducible refine Below.drewN ?_ _ | with_reducible refine Below.alloc2 ?_ _ | with_reducible refine Below.alloc ?_ (by first | omega | (simp <;> omega)) _ | with_reducible refine Below.setCell ?_ (by first | omega | (simp <;> omega)) _ | with_reducible refine Below.step2 (by with_reducible assumption) ?_ | with_reducible refine Below.step (by with_reducible assumption) ?_ (by first | omega | (simp <;> omega)))))).mono ?_
    rintro e w1 ⟨hb1, rfl⟩; obtain ⟨hc1, hf1⟩ := bcell hb1; have hz1 := hb1.size; (try simp at hz1)
    have oA1 : w.heap.size < w1.heap.size := by omega
    have k1 : Bk w1 w.heap.size 57 #[.int .i64 x, .int .i64 y] := (by repeat (first | with_reducible assumption | with_reducible exact Bk.at_ (by simp) | with_reducible refine Bk.alloc ?_ _ | with_reducible refine Bk.drew ?_ | with_reducible refine Bk.drewN ?_ _ | with_reducible refine Bk.step (by with_reducible assumption) ?_ (by first | omega | (simp <;> omega))))
    obtain ⟨⟨p0, p1⟩, -⟩ := k1.two
    have HK1 := Lib.hid k1
    have HB1 : Hid (Below w.heap.size w w1) := Lib.hid (by repeat (first | with_reducible exact Below.refl _ _ | with_reducible assumption | with_reducible refine Below.drew ?_ | with_reducible refine Below.drewN ?_ _ | with_reducible refine Below.alloc2 ?_ _ | with_reducible refine Below.alloc ?_ (by first | omega | (simp <;> omega)) _ | with_reducible refine Below.setCell ?_ (by first | omega | (simp <;> omega)) _ | with_reducible refine Below.step2 (by with_reducible assumption) ?_ | with_reducible refine Below.step (by with_reducible assumption) ?_ (by first | omega | (simp <;> omega))))
    clear k1 hb1 hc1 hf1
    go_wp2
    go_region_held3 (fun w' => w'.cell? ⟨w.heap.size, 0, none⟩ = some (.int .i64 x) ∧ w'.cell? ⟨w.heap.size, 1, none⟩ = some (.int .i64 y)) (go_keep)
      (first
        | (go_at_call 53; refine (HS.out _ (H.out _ (by have hb := HB1.out; exact (by repeat (first | with_reducible exact Below.refl _ _ | with_reducible assumption | with_reducible refine Below.drew ?_ | with_reducible refine Below.drewN ?_ _ | with_reducible refine Below.alloc2 ?_ _ | with_reducible refine Below.alloc ?_ (by first | omega | (simp <;> omega)) _ | with_reducible refine Below.setCell ?_ (by first | omega | (simp <;> omega)) _ | with_reducible refine Below.step2 (by with_reducible assumption) ?_ | with_reducible refine Below.step (by with_reducible assumption) ?_ (by first | omega | (simp <;> omega))))))).mono ?_; rintro e w2 ⟨hb2, A2, rfl, hw2⟩; obtain ⟨hc2, hf2⟩ := bcell hb2; have q0 := (hc2 _ 0 oA1).trans p0; have q1 := (hc2 _ 1 oA1).trans p1; have HB2 := Lib.hid hb2; have HW2 := Lib.hid hw2; clear hb2 hw2)
        | (go_at_call 63; refine (HW.out _ _ HW2.out).mono ?_; rintro e w3 ⟨hb3, rfl⟩; have HB3 := Lib.hid hb3; have hz3 := hb3.size; have hz2 := HB2.out.size; simp at hz2; obtain ⟨hc3, hf3⟩ := bcell hb3; have r0 := (hc3 _ 0 (by omega)).trans q0; have r1 := (hc3 _ 1 (by omega)).trans q1; clear hb3))
    go_wp2
    go_ret2
    have hb1 := HB1.out
    have hb2 := HB2.out
    have hb3 := HB3.out
    exact ⟨(by repeat (first | with_reducible exact Below.refl _ _ | with_reducible assumption | with_reducible refine Below.drew ?_ | with_reducible refine Below.drewN ?_ _ | with_reducible refine Below.alloc2 ?_ _ | with_reducible refine Below.alloc ?_ (by first | omega | (simp <;> omega)) _ | with_reducible refine Below.setCell ?_ (by first | omega | (simp <;> omega)) _ | with_reducible refine Below.step2 (by with_reducible assumption) ?_ | with_reducible refine Below.step (by with_reducible assumption) ?_ (by first | omega | (simp <;> omega)))), rfl⟩
  · rw [if_neg ho]
    have hne : (opErr l x y != 0) = true := by simpa using ho
    generalize opErr l x y = E at *
    clear ho
    go_enter Try.func30, Try.ntmps30
    go_wp2_with fail
    refine (HC.out _ (H.out _ (by repeat (first | with_reducible exact Below.refl _ _ | with_reducible assumption | with_reducible refine Below.drew ?_ | with_reducible refine Below.drewN ?_ _ | with_reducible refine Below.alloc2 ?_ _ | with_reducible refine Below.alloc ?_ (by first | omega | (simp <;> omega)) _ | with_reducible refine Below.setCell ?_ (by first | omega | (simp <;> omega)) _ | with_reducible refine Below.step2 (by with_reducible assumption) ?_ | with_reducible refine Below.step (by with_reducible assumption) ?_ (by first | omega | (simp <;> omega)))))).mono ?_
    rintro e w1 ⟨hb1, rfl⟩; obtain ⟨hc1, hf1⟩ := bcell hb1; have hz1 := hb1.size; (try simp at hz1)
    go_wp2
    go_ret2
    exact ⟨(by repeat (first | with_reducible exact Below.refl _ _ | with_reducible assumption | with_reducible refine Below.drew ?_ | with_reducible refine Below.drewN ?_ _ | with_reducible refine Below.alloc2 ?_ _ | with_reducible refine Below.alloc ?_ (by first | omega | (simp <;> omega)) _ | with_reducible refine Below.setCell ?_ (by first | omega | (simp <;> omega)) _ | with_reducible refine Below.step2 (by with_reducible assumption) ?_ | with_reducible refine Below.step (by with_reducible assumption) ?_ (by first | omega | (simp <;> omega)))), rfl⟩

set_option maxRecDepth 100000 in
set_option maxHeartbeats 4000000 in
theorem Distance_any (A : Option Addr) (n c : Nat) (l : List (Int × Int)) (x y : Int) (w : World) (h : Pts w w.heap.size A n c l) :
    Calls Try.prog 31 #[.slice A n c, .agg #[.int .i64 x, .int .i64 y]] w fun e w' => Below w.heap.size w w' ∧
      e = .returned (.tuple #[.int .i64 (if opErr l x y = 0 then distR (sides l) x y else 0), .int .i64 (opErr l x y)]) := by
  have HLEN := Lib.hid h.len
  have H : Hid (∀ w', Below w.heap.size w w' → Pts w' w'.heap.size A n c l) := fun w' hb => h.below hb (Nat.le_refl _) hb.size
  have HC := Lib.hid (fun (W : World) (hp : Pts W W.heap.size A n c l) => opError_any A n c l x y W hp)
  clear h
  by_cases ho : opErr l x y = 0
  · rw [if_pos ho, ho]
    rw [ho] at HC
    have h1 : outErr l = 0 := by
      unfold opErr at ho
      split at ho
      · assumption
      · omega
    have h2 : placeErr x y = 0 := by unfold opErr at ho; rwa [if_pos h1] at ho
    obtain ⟨h4, h40, hin, -, -, hT⟩ := outErr_ok h1
    obtain ⟨hx, hy⟩ := placeErr_ok h2
    have hn4 : 4 ≤ n := by rw [← HLEN.out]; exact h4
    have hn40 : n ≤ 40 := by rw [← HLEN.out]; exact h40
    have HS := Lib.hid (fun (W : World) (hp : Pts W W.heap.size A n c l) => sides_any A n c l W hp hin (by omega))
    have HW := Lib.hid (fun (A1 : Option Addr) (W : World) (hw : Walls W W.heap.size A1 n n (sides l)) => where_any A1 n n (sides l) x y W hw (allB_sides hin) hx hy)
    have HAB := Lib.hid (allB_sides hin)
    have HSL : Hid ((sides l).length = n) := Lib.hid (by rw [sides_length, HLEN.out])
    have HDR : Hid (distR (sides l) x y = if 0 ≤ whereS (sides l) x y then 0 else leastTo (sides l) x y n) := Lib.hid (by unfold distR; rw [HSL.out])
    have HX := Lib.hid hx
    have HY := Lib.hid hy
    generalize sides l = ss at *
    clear ho h1 h2 hx hy h4 h40 hin hT
    by_cases hw : 0 ≤ whereS ss x y
    · rw [HDR.out, if_pos hw]
      generalize whereS ss x y = R at *
      clear HDR
      go_enter Try.func31, Try.ntmps31
      go_wp2_with fail
      refine (HC.out _ (H.out _ (by repeat (first | with_reducible exact Below.refl _ _ | with_reducible assumption | with_reducible refine Below.drew ?_ | with_reducible refine Below.drewN ?_ _ | with_reducible refine Below.alloc2 ?_ _ | with_reducible refine Below.alloc ?_ (by first | omega | (simp <;> omega)) _ | with_reducible refine Below.setCell ?_ (by first | omega | (simp <;> omega)) _ | with_reducible refine Below.step2 (by with_reducible assumption) ?_ | with_reducible refine Below.step (by with_reducible assumption) ?_ (by first | omega | (simp <;> omega)))))).mono ?_
      rintro e w1 ⟨hb1, rfl⟩; obtain ⟨hc1, hf1⟩ := bcell hb1; have hz1 := hb1.size; (try simp at hz1)
      have oA1 : w.heap.size < w1.heap.size := by omega
      have k1 : Bk w1 w.heap.size 57 #[.int .i64 x, .int .i64 y] := (by repeat (first | with_reducible assumption | with_reducible exact Bk.at_ (by simp) | with_reducible refine Bk.alloc ?_ _ | with_reducible refine Bk.drew ?_ | with_reducible refine Bk.drewN ?_ _ | with_reducible refine Bk.step (by with_reducible assumption) ?_ (by first | omega | (simp <;> omega))))
      obtain ⟨⟨p0, p1⟩, -⟩ := k1.two
      have HK1 := Lib.hid k1
      have HB1 : Hid (Below w.heap.size w w1) := Lib.hid (by repeat (first | with_reducible exact Below.refl _ _ | with_reducible assumption | with_reducible refine Below.drew ?_ | with_reducible refine Below.drewN ?_ _ | with_reducible refine Below.alloc2 ?_ _ | with_reducible refine Below.alloc ?_ (by first | omega | (simp <;> omega)) _ | with_reducible refine Below.setCell ?_ (by first | omega | (simp <;> omega)) _ | with_reducible refine Below.step2 (by with_reducible assumption) ?_ | with_reducible refine Below.step (by with_reducible assumption) ?_ (by first | omega | (simp <;> omega))))
      clear k1 hb1 hc1 hf1
      go_wp2_with fail
      refine (HS.out _ (H.out _ (by have hb := HB1.out; exact (by repeat (first | with_reducible exact Below.refl _ _ | with_reducible assumption | with_reducible refine Below.drew ?_ | with_reducible refine Below.drewN ?_ _ | with_reducible refine Below.alloc2 ?_ _ | with_reducible refine Below.alloc ?_ (by first | omega | (simp <;> omega)) _ | with_reducible refine Below.setCell ?_ (by first | omega | (simp <;> omega)) _ | with_reducible refine Below.step2 (by with_reducible assumption) ?_ | with_reducible refine Below.step (by with_reducible assumption) ?_ (by first | omega | (simp <;> omega))))))).mono ?_
      rintro e w2 ⟨hb2, A2, rfl, hw2⟩
      obtain ⟨hc2, hf2⟩ := bcell hb2
      have hz2 := hb2.size
      have q0 := (hc2 _ 0 oA1).trans p0
      have q1 := (hc2 _ 1 oA1).trans p1
      have HB2 := Lib.hid hb2
      have HW2 := Lib.hid hw2
      clear hb2 hw2 hc2 hf2
      go_wp2_with fail
      refine (HW.out _ _ HW2.out).mono ?_
      rintro e w3 ⟨hb3, rfl⟩
      have HB3 := Lib.hid hb3
      have hz3 := hb3.size
      clear hb3
      go_wp2
      go_ret2
      have hb1 := HB1.out
      have hb2 := HB2.out
      have hb3 := HB3.out
      exact ⟨(by repeat (first | with_reducible exact Below.refl _ _ | with_reducible assumption | with_reducible refine Below.drew ?_ | with_reducible refine Below.drewN ?_ _ | with_reducible refine Below.alloc2 ?_ _ | with_reducible refine Below.alloc ?_ (by first | omega | (simp <;> omega)) _ | with_reducible refine Below.setCell ?_ (by first | omega | (simp <;> omega)) _ | with_reducible refine Below.step2 (by with_reducible assumption) ?_ | with_reducible refine Below.step (by with_reducible assumption) ?_ (by first | omega | (simp <;> omega)))), rfl⟩
    · rw [HDR.out, if_neg hw]
      have hw2 : whereS ss x y < 0 := by omega
      generalize whereS ss x y = R at *
      have HLB := Lib.hid (leastTo_bd HAB.out (by rw [HSL.out]; omega) HX.out HY.out)
      clear HDR hw
      go_enter Try.func31, Try.ntmps31
      go_wp2_with fail
      refine (HC.out _ (H.out _ (by repeat (first | with_reducible exact Below.refl _ _ | with_reducible assumption | with_reducible refine Below.drew ?_ | with_reducible refine Below.drewN ?_ _ | with_reducible refine Below.alloc2 ?_ _ | with_reducible refine Below.alloc ?_ (by first | omega | (simp <;> omega)) _ | with_reducible refine Below.setCell ?_ (by first | omega | (simp <;> omega)) _ | with_reducible refine Below.step2 (by with_reducible assumption) ?_ | with_reducible refine Below.step (by with_reducible assumption) ?_ (by first | omega | (simp <;> omega)))))).mono ?_
      rintro e w1 ⟨hb1, rfl⟩; obtain ⟨hc1, hf1⟩ := bcell hb1; have hz1 := hb1.size; (try simp at hz1)
      have oA1 : w.heap.size < w1.heap.size := by omega
      have k1 : Bk w1 w.heap.size 57 #[.int .i64 x, .int .i64 y] := (by repeat (first | with_reducible assumption | with_reducible exact Bk.at_ (by simp) | with_reducible refine Bk.alloc ?_ _ | with_reducible refine Bk.drew ?_ | with_reducible refine Bk.drewN ?_ _ | with_reducible refine Bk.step (by with_reducible assumption) ?_ (by first | omega | (simp <;> omega))))
      obtain ⟨⟨p0, p1⟩, -⟩ := k1.two
      have HK1 := Lib.hid k1
      have HB1 : Hid (Below w.heap.size w w1) := Lib.hid (by repeat (first | with_reducible exact Below.refl _ _ | with_reducible assumption | with_reducible refine Below.drew ?_ | with_reducible refine Below.drewN ?_ _ | with_reducible refine Below.alloc2 ?_ _ | with_reducible refine Below.alloc ?_ (by first | omega | (simp <;> omega)) _ | with_reducible refine Below.setCell ?_ (by first | omega | (simp <;> omega)) _ | with_reducible refine Below.step2 (by with_reducible assumption) ?_ | with_reducible refine Below.step (by with_reducible assumption) ?_ (by first | omega | (simp <;> omega))))
      clear k1 hb1 hc1 hf1
      go_wp2_with fail
      refine (HS.out _ (H.out _ (by have hb := HB1.out; exact (by repeat (first | with_reducible exact Below.refl _ _ | with_reducible assumption | with_reducible refine Below.drew ?_ | with_reducible refine Below.drewN ?_ _ | with_reducible refine Below.alloc2 ?_ _ | with_reducible refine Below.alloc ?_ (by first | omega | (simp <;> omega)) _ | with_reducible refine Below.setCell ?_ (by first | omega | (simp <;> omega)) _ | with_reducible refine Below.step2 (by with_reducible assumption) ?_ | with_reducible refine Below.step (by with_reducible assumption) ?_ (by first | omega | (simp <;> omega))))))).mono ?_
      rintro e w2 ⟨hb2, A2, rfl, hw2⟩
      obtain ⟨hc2, hf2⟩ := bcell hb2
      have hz2 := hb2.size
      have q0 := (hc2 _ 0 oA1).trans p0
      have q1 := (hc2 _ 1 oA1).trans p1
      have HB2 := Lib.hid hb2
      have HW2 := Lib.hid hw2
      clear hb2 hw2 hc2 hf2
      go_wp2_with fail
      refine (HW.out _ _ HW2.out).mono ?_
      rintro e w3 ⟨hb3, rfl⟩
      have HB3 := Lib.hid hb3
      have hz3 := hb3.size
      clear hb3
      go_wp2
      have HB3' : Hid (Below w.heap.size w w3) := Lib.hid (by have hb1 := HB1.out; have hb2 := HB2.out; have hb3 := HB3.out; exact (by repeat (first | with_reducible exact Below.refl _ _ | with_reducible assumption | with_reducible refine Below.drew ?_ | with_reducible refine Below.drewN ?_ _ | with_reducible refine Below.alloc2 ?_ _ | with_reducible refine Below.alloc ?_ (by first | omega | (simp <;> omega)) _ | with_reducible refine Below.setCell ?_ (by first | omega | (simp <;> omega)) _ | with_reducible refine Below.step2 (by with_reducible assumption) ?_ | with_reducible refine Below.step (by with_reducible assumption) ?_ (by first | omega | (simp <;> omega)))))
      have HW3 := Lib.hid (HW2.out.below HB3.out (Nat.le_refl _) HB3.out.size)
      have k3 : Bk w3 w.heap.size 57 #[.int .i64 x, .int .i64 y] := HK1.out.below (HB2.out.trans (HB3.out.mono HB2.out.size)) oA1
      have HK3 := Lib.hid k3
      obtain ⟨⟨r0, r1⟩, -⟩ := k3.two
      have oA3 := k3.lt
      obtain ⟨b, o, s, rfl, hbb, hs, c0, c1, c2, c3, c4, c5⟩ := HW3.out.at_ (k := 0) (by omega)
      have HS0 := Lib.hid (sd_of hs)
      have hbs : Bds s := by have := HAB.out 0 (by rw [HSL.out]; omega); rwa [HS0.out] at this
      have hn0 : 0 < n := by omega
      have hn1 : (0 : Int) < (n : Int) := by omega
      have HDI := Lib.hid (fun W : World => distance_any s.x1 s.y1 s.x2 s.y2 s.len s.dir x y W hbs HX.out HY.out)
      have HL0 : Hid (distS ⟨s.x1, s.y1, s.x2, s.y2, s.len, s.dir⟩ x y = leastTo ss x y 0) := Lib.hid (by simp only [leastTo]; rw [HS0.out])
      rw [HL0.out] at HDI
      simp only [Nat.zero_mul, Nat.add_zero] at c0 c1 c2 c3 c4 c5
      clear hs hbs k3
      go_region_held3 (fun w' => w'.cell? ⟨w.heap.size, 0, none⟩ = some (.int .i64 x) ∧ w'.cell? ⟨w.heap.size, 1, none⟩ = some (.int .i64 y) ∧ w'.cell? ⟨b, o, none⟩ = some (.int .i64 s.x1) ∧ w'.cell? ⟨b, o + 1, none⟩ = some (.int .i64 s.y1) ∧ w'.cell? ⟨b, o + 2, none⟩ = some (.int .i64 s.x2) ∧ w'.cell? ⟨b, o + 3, none⟩ = some (.int .i64 s.y2) ∧ w'.cell? ⟨b, o + 4, none⟩ = some (.int .i64 s.len) ∧ w'.cell? ⟨b, o + 5, none⟩ = some (.int .i64 s.dir)) (go_keep)
        (first
          | (go_at_call 64; refine (HDI.out _).mono ?_; rintro e w4 ⟨hb4, rfl⟩; obtain ⟨hc4, hf4⟩ := bcell hb4; have HB4 := Lib.hid hb4; have hz4 := hb4.size; have v0 := (hc4 _ 0 oA3).trans r0; have v1 := (hc4 _ 1 oA3).trans r1; have u0 := (hc4 _ _ hbb).trans c0; have u1 := (hc4 _ _ hbb).trans c1; have u2 := (hc4 _ _ hbb).trans c2; have u3 := (hc4 _ _ hbb).trans c3; have u4 := (hc4 _ _ hbb).trans c4; have u5 := (hc4 _ _ hbb).trans c5; clear hb4))
      go_wp2
      have H4 : Hid (∀ w', Below w3.heap.size w3 w' → Walls w' w'.heap.size (some ⟨b, o, none⟩) n n ss) := Lib.hid fun w' hb => HW3.out.below hb (Nat.le_refl _) hb.size
      have H5 : Hid (∀ w', Below w3.heap.size w3 w' → Bk w' w.heap.size 57 #[.int .i64 x, .int .i64 y]) := Lib.hid fun w' hb => HK3.out.below hb oA3
      clear hc4 hf4 v0 v1 u0 u1 u2 u3 u4 u5 r0 r1 c0 c1 c2 c3 c4 c5 q0 q1 p0 p1
      go_loopw [8, 30] (fun v i wr => ∃ k : Nat, k ≤ n ∧ i = .int .i64 k ∧ v = .int .i64 (leastTo ss x y k) ∧ Below w3.heap.size w3 wr) (fun _ i _ => n - (intOf i).toNat)
      case atStart => exact ⟨0, Nat.zero_le _, rfl, rfl, by have hb4 := HB4.out; exact (by repeat (first | with_reducible exact Below.refl _ _ | with_reducible assumption | with_reducible refine Below.drew ?_ | with_reducible refine Below.drewN ?_ _ | with_reducible refine Below.alloc2 ?_ _ | with_reducible refine Below.alloc ?_ (by first | omega | (simp <;> omega)) _ | with_reducible refine Below.setCell ?_ (by first | omega | (simp <;> omega)) _ | with_reducible refine Below.step2 (by with_reducible assumption) ?_ | with_reducible refine Below.step (by with_reducible assumption) ?_ (by first | omega | (simp <;> omega))))⟩
      case round =>
        obtain ⟨k, hk, rfl, rfl, hb⟩ := hrel
        by_cases hlt : k < n
        · obtain ⟨b', o', t, e, hbb', ht, c0, c1, c2, c3, c4, c5⟩ := (H4.out _ hb).at_ hlt
          obtain ⟨rfl, rfl⟩ : b = b' ∧ o = o' := by simpa using e
          obtain ⟨⟨p0, p1⟩, -⟩ := (H5.out _ hb).two
          have hz := hb.size
          have op : w.heap.size < wr.heap.size := by omega
          have HT := Lib.hid (sd_of ht)
          have hbt : Bds t := by have := HAB.out k (by rw [HSL.out]; exact hlt); rwa [HT.out] at this
          have HDT := Lib.hid (fun W : World => distance_any t.x1 t.y1 t.x2 t.y2 t.len t.dir x y W hbt HX.out HY.out)
          have HLS : Hid (leastTo ss x y (k + 1) = min (leastTo ss x y k) (distS ⟨t.x1, t.y1, t.x2, t.y2, t.len, t.dir⟩ x y)) := Lib.hid (by simp only [leastTo]; rw [HT.out])
          have HB := Lib.hid hb
          generalize distS ⟨t.x1, t.y1, t.x2, t.y2, t.len, t.dir⟩ x y = D at *
          generalize leastTo ss x y k = L at *
          clear e ht hbt hb hbb'
          go_wp2_with fail
          refine (HDT.out _).mono ?_
          rintro e w5 ⟨hb5, rfl⟩; obtain ⟨hc5, hf5⟩ := bcell hb5; have hz5 := hb5.size; (try simp at hz5)
          go_wp2
          go_roundw
          case rel =>
            have hb := HB.out
            exact ⟨k + 1, by omega, by go_num, by rw [HLS.out], (by repeat (first | with_reducible exact Below.refl _ _ | with_reducible assumption | with_reducible refine Below.drew ?_ | with_reducible refine Below.drewN ?_ _ | with_reducible refine Below.alloc2 ?_ _ | with_reducible refine Below.alloc ?_ (by first | omega | (simp <;> omega)) _ | with_reducible refine Below.setCell ?_ (by first | omega | (simp <;> omega)) _ | with_reducible refine Below.step2 (by with_reducible assumption) ?_ | with_reducible refine Below.step (by with_reducible assumption) ?_ (by first | omega | (simp <;> omega))))⟩
          case measure => simp [intOf]; omega
        · have e : k = n := by omega
          subst e
          have HB := Lib.hid hb
          clear hb
          go_wp2
          go_ret2
          have hb := HB.out
          have hb3 := HB3'.out
          exact ⟨(by repeat (first | with_reducible exact Below.refl _ _ | with_reducible assumption | with_reducible refine Below.drew ?_ | with_reducible refine Below.drewN ?_ _ | with_reducible refine Below.alloc2 ?_ _ | with_reducible refine Below.alloc ?_ (by first | omega | (simp <;> omega)) _ | with_reducible refine Below.setCell ?_ (by first | omega | (simp <;> omega)) _ | with_reducible refine Below.step2 (by with_reducible assumption) ?_ | with_reducible refine Below.step (by with_reducible assumption) ?_ (by first | omega | (simp <;> omega)))), rfl⟩
  · rw [if_neg ho]
    have hne : (opErr l x y != 0) = true := by simpa using ho
    generalize opErr l x y = E at *
    clear ho
    go_enter Try.func31, Try.ntmps31
    go_wp2_with fail
    refine (HC.out _ (H.out _ (by repeat (first | with_reducible exact Below.refl _ _ | with_reducible assumption | with_reducible refine Below.drew ?_ | with_reducible refine Below.drewN ?_ _ | with_reducible refine Below.alloc2 ?_ _ | with_reducible refine Below.alloc ?_ (by first | omega | (simp <;> omega)) _ | with_reducible refine Below.setCell ?_ (by first | omega | (simp <;> omega)) _ | with_reducible refine Below.step2 (by with_reducible assumption) ?_ | with_reducible refine Below.step (by with_reducible assumption) ?_ (by first | omega | (simp <;> omega)))))).mono ?_
    rintro e w1 ⟨hb1, rfl⟩; obtain ⟨hc1, hf1⟩ := bcell hb1; have hz1 := hb1.size; (try simp at hz1)
    go_wp2
    go_ret2
    exact ⟨(by repeat (first | with_reducible exact Below.refl _ _ | with_reducible assumption | with_reducible refine Below.drew ?_ | with_reducible refine Below.drewN ?_ _ | with_reducible refine Below.alloc2 ?_ _ | with_reducible refine Below.alloc ?_ (by first | omega | (simp <;> omega)) _ | with_reducible refine Below.setCell ?_ (by first | omega | (simp <;> omega)) _ | with_reducible refine Below.step2 (by with_reducible assumption) ?_ | with_reducible refine Below.step (by with_reducible assumption) ?_ (by first | omega | (simp <;> omega)))), rfl⟩

end Go.Proofs.Ytbfbjpnmgcpjlaa
