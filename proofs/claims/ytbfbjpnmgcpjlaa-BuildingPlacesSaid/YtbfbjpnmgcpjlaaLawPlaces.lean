/- The law BuildingPlaces, out of its callees' contracts. -/
import Derived.Test.YtbfbjpnmgcpjlaaPoints
import Derived.Test.YtbfbjpnmgcpjlaaAwake
import Derived.Test.YtbfbjpnmgcpjlaaRefDist
namespace Go.Proofs.Ytbfbjpnmgcpjlaa
open Go.RowKit

set_option maxRecDepth 100000 in
set_option maxHeartbeats 4000000 in
theorem lawPlaces_many (A : Option Addr) (n c : Nat) (x y : Int) (w : World) (hm : n ≤ 9223372036854775807) (hn : 45 < n) :
    Calls Try.prog 6 #[.slice A n c, .agg #[.int .i64 x, .int .i64 y]] w fun e w' => Below w.heap.size w w' ∧ e = .returned (.bool true) := by
  have hf : decide (n ≤ 45) = false := by simp; omega
  have HFEW := Lib.hid (fun W : World => few_any A n c W hm)
  rw [hf] at HFEW
  clear hf
  go_enter Try.func6, Try.ntmps6
  go_wp2_with fail
  refine (awake_any _).mono ?_
  rintro e w1 ⟨hb1, rfl⟩
  have k1 : Bk w1 w.heap.size 57 #[.int .i64 x, .int .i64 y] := (by repeat (first | with_reducible assumption | with_reducible exact Bk.at_ (by simp) | with_reducible refine Bk.alloc ?_ _ | with_reducible refine Bk.drew ?_ | with_reducible refine Bk.drewN ?_ _ | with_reducible refine Bk.step (by with_reducible assumption) ?_ (by first | omega | (simp <;> omega))))
  have HK1 := Lib.hid k1
  have HB1 : Hid (Below w.heap.size w w1) := Lib.hid (by repeat (first | with_reducible exact Below.refl _ _ | with_reducible assumption | with_reducible refine Below.drew ?_ | with_reducible refine Below.drewN ?_ _ | with_reducible refine Below.alloc2 ?_ _ | with_reducible refine Below.alloc ?_ (by first | omega | (simp <;> omega)) _ | with_reducible refine Below.setCell ?_ (by first | omega | (simp <;> omega)) _ | with_reducible refine Below.step2 (by with_reducible assumption) ?_ | with_reducible refine Below.step (by with_reducible assumption) ?_ (by first | omega | (simp <;> omega))))
  have o1 := k1.lt
  obtain ⟨⟨p0, p1⟩, -⟩ := k1.two
  clear hb1 k1
  go_wp2_with fail
  refine (HFEW.out _).mono ?_
  rintro e w1' ⟨rfl, rfl⟩
  go_wp2
  go_ret
  exact ⟨HB1.out, rfl⟩

set_option maxRecDepth 100000 in
set_option maxHeartbeats 4000000 in
theorem lawPlaces_bad1 (A : Option Addr) (n c : Nat) (l : List (Int × Int)) (x y : Int) (w : World) (h : Pts w w.heap.size A n c l) (hA : A = none → n = 0 ∧ c = 0) (hn : n ≤ 45) (ho : outErr l ≠ 0) :
    Calls Try.prog 6 #[.slice A n c, .agg #[.int .i64 x, .int .i64 y]] w fun e w' => Below w.heap.size w w' ∧ e = .returned (.bool true) := by
  have hm := h.max
  have hcp := h.cap
  have hf : decide (n ≤ 45) = true := by simp; omega
  have HFEW := Lib.hid (fun W : World => few_any A n c W (by omega))
  rw [hf] at HFEW
  have H : Hid (∀ w', Below w.heap.size w w' → Pts w' w'.heap.size A n c l) := fun w' hb => h.below hb (Nat.le_refl _) hb.size
  have HPO := Lib.hid (fun (W : World) (hb : Below w.heap.size w W) => points_any A n c l W (h.below hb (Nat.le_refl _) hb.size) hA (by omega))
  have HWH := Lib.hid (fun (A : Option Addr) (c : Nat) (W : World) (hp : Pts W W.heap.size A n c l) => Where_any A n c l x y W hp)
  have HDI := Lib.hid (fun (A : Option Addr) (c : Nat) (W : World) (hp : Pts W W.heap.size A n c l) => Distance_any A n c l x y W hp)
  have HRE := Lib.hid (fun (W : World) (hp : Pts W W.heap.size A n c l) => refCheckOutline_any A n c l W hp)
  have HPE := Lib.hid (fun (W : World) => pointErr_any x y W)
  have he : opErr l x y = outErr l := by unfold opErr; rw [if_neg ho]
  have hne : (outErr l != 0) = true := by simpa using ho
  have hne2 : (outErr l == 0) = false := by simpa using ho
  rw [if_neg (by rw [he]; exact ho), he] at HWH HDI
  generalize outErr l = E at *
  clear h hA hf ho he
  go_enter Try.func6, Try.ntmps6
  go_wp2_with fail
  refine (awake_any _).mono ?_
  rintro e w1 ⟨hb1, rfl⟩
  have k1 : Bk w1 w.heap.size 57 #[.int .i64 x, .int .i64 y] := (by repeat (first | with_reducible assumption | with_reducible exact Bk.at_ (by simp) | with_reducible refine Bk.alloc ?_ _ | with_reducible refine Bk.drew ?_ | with_reducible refine Bk.drewN ?_ _ | with_reducible refine Bk.step (by with_reducible assumption) ?_ (by first | omega | (simp <;> omega))))
  have HK1 := Lib.hid k1
  have HB1 : Hid (Below w.heap.size w w1) := Lib.hid (by repeat (first | with_reducible exact Below.refl _ _ | with_reducible assumption | with_reducible refine Below.drew ?_ | with_reducible refine Below.drewN ?_ _ | with_reducible refine Below.alloc2 ?_ _ | with_reducible refine Below.alloc ?_ (by first | omega | (simp <;> omega)) _ | with_reducible refine Below.setCell ?_ (by first | omega | (simp <;> omega)) _ | with_reducible refine Below.step2 (by with_reducible assumption) ?_ | with_reducible refine Below.step (by with_reducible assumption) ?_ (by first | omega | (simp <;> omega))))
  have o1 := k1.lt
  obtain ⟨⟨p0, p1⟩, -⟩ := k1.two
  clear hb1 k1
  go_wp2_with fail
  refine (HFEW.out _).mono ?_
  rintro e w1' ⟨rfl, rfl⟩
  go_wp2_with fail
  go_region_held3 (fun w' => w'.cell? ⟨w.heap.size, 0, none⟩ = some (.int .i64 x) ∧ w'.cell? ⟨w.heap.size, 1, none⟩ = some (.int .i64 y)) (go_keep)
    (first
      | (go_at_call 21; refine (HPO.out _ (by have hb := HB1.out; exact (by repeat (first | with_reducible exact Below.refl _ _ | with_reducible assumption | with_reducible refine Below.drew ?_ | with_reducible refine Below.drewN ?_ _ | with_reducible refine Below.alloc2 ?_ _ | with_reducible refine Below.alloc ?_ (by first | omega | (simp <;> omega)) _ | with_reducible refine Below.setCell ?_ (by first | omega | (simp <;> omega)) _ | with_reducible refine Below.step2 (by with_reducible assumption) ?_ | with_reducible refine Below.step (by with_reducible assumption) ?_ (by first | omega | (simp <;> omega)))))).mono ?_; rintro e w2 ⟨hb2, A2, c2, rfl, hp2⟩; obtain ⟨hc2, -⟩ := bcell hb2; have hz2 := hb2.size; (try simp at hz2); have o2 : w.heap.size < w2.heap.size := (by omega); replace p0 := (hc2 _ 0 (by first | omega | (simp <;> omega))).trans p0; replace p1 := (hc2 _ 1 (by first | omega | (simp <;> omega))).trans p1; have HB2 : Hid (Below w.heap.size w w2) := Lib.hid (by have hb := HB1.out; exact (by repeat (first | with_reducible exact Below.refl _ _ | with_reducible assumption | with_reducible refine Below.drew ?_ | with_reducible refine Below.drewN ?_ _ | with_reducible refine Below.alloc2 ?_ _ | with_reducible refine Below.alloc ?_ (by first | omega | (simp <;> omega)) _ | with_reducible refine Below.setCell ?_ (by first | omega | (simp <;> omega)) _ | with_reducible refine Below.step2 (by with_reducible assumption) ?_ | with_reducible refine Below.step (by with_reducible assumption) ?_ (by first | omega | (simp <;> omega))))); have HP2 := Lib.hid hp2; clear hb2 hc2 hp2)
      | (go_at_call 30; refine (HWH.out A2 c2 _ HP2.out).mono ?_; rintro e w3 ⟨hb3, rfl⟩; obtain ⟨hc3, -⟩ := bcell hb3; have hz3 := hb3.size; have o3 : w.heap.size < w3.heap.size := (by omega); replace p0 := (hc3 _ 0 o2).trans p0; replace p1 := (hc3 _ 1 o2).trans p1; have HB3 : Hid (Below w.heap.size w w3) := Lib.hid (Below.step2 hb3 HB2.out); clear hb3 hc3))
  go_wp2_with fail
  go_region_held3 (fun w' => w'.cell? ⟨w.heap.size, 0, none⟩ = some (.int .i64 x) ∧ w'.cell? ⟨w.heap.size, 1, none⟩ = some (.int .i64 y)) (go_keep)
    (first
      | (go_at_call 21; refine (HPO.out _ (by have hb := HB3.out; exact (by repeat (first | with_reducible exact Below.refl _ _ | with_reducible assumption | with_reducible refine Below.drew ?_ | with_reducible refine Below.drewN ?_ _ | with_reducible refine Below.alloc2 ?_ _ | with_reducible refine Below.alloc ?_ (by first | omega | (simp <;> omega)) _ | with_reducible refine Below.setCell ?_ (by first | omega | (simp <;> omega)) _ | with_reducible refine Below.step2 (by with_reducible assumption) ?_ | with_reducible refine Below.step (by with_reducible assumption) ?_ (by first | omega | (simp <;> omega)))))).mono ?_; rintro e w4 ⟨hb4, A4, c4, rfl, hp4⟩; obtain ⟨hc4, -⟩ := bcell hb4; have hz4 := hb4.size; (try simp at hz4); have o4 : w.heap.size < w4.heap.size := (by omega); replace p0 := (hc4 _ 0 (by first | omega | (simp <;> omega))).trans p0; replace p1 := (hc4 _ 1 (by first | omega | (simp <;> omega))).trans p1; have HB4 : Hid (Below w.heap.size w w4) := Lib.hid (by have hb := HB3.out; exact (by repeat (first | with_reducible exact Below.refl _ _ | with_reducible assumption | with_reducible refine Below.drew ?_ | with_reducible refine Below.drewN ?_ _ | with_reducible refine Below.alloc2 ?_ _ | with_reducible refine Below.alloc ?_ (by first | omega | (simp <;> omega)) _ | with_reducible refine Below.setCell ?_ (by first | omega | (simp <;> omega)) _ | with_reducible refine Below.step2 (by with_reducible assumption) ?_ | with_reducible refine Below.step (by with_reducible assumption) ?_ (by first | omega | (simp <;> omega))))); have HP4 := Lib.hid hp4; clear hb4 hc4 hp4)
      | (go_at_call 31; refine (HDI.out A4 c4 _ HP4.out).mono ?_; rintro e w5 ⟨hb5, rfl⟩; obtain ⟨hc5, -⟩ := bcell hb5; have hz5 := hb5.size; have o5 : w.heap.size < w5.heap.size := (by omega); replace p0 := (hc5 _ 0 o4).trans p0; replace p1 := (hc5 _ 1 o4).trans p1; have HB5 : Hid (Below w.heap.size w w5) := Lib.hid (Below.step2 hb5 HB4.out); clear hb5 hc5))
  go_wp2_with fail
  refine (HRE.out _ (H.out _ HB5.out)).mono ?_
  rintro e w6 ⟨hb6, rfl⟩
  obtain ⟨hc6, -⟩ := bcell hb6
  have hz6 := hb6.size
  have o6 : w.heap.size < w6.heap.size := by omega
  replace p0 := (hc6 _ 0 o5).trans p0
  replace p1 := (hc6 _ 1 o5).trans p1
  have HB6 : Hid (Below w.heap.size w w6) := Lib.hid (Below.step2 hb6 HB5.out)
  clear hb6 hc6
  go_wp2
  go_ret
  exact ⟨HB6.out, rfl⟩

set_option maxRecDepth 100000 in
set_option maxHeartbeats 4000000 in
theorem lawPlaces_bad2 (A : Option Addr) (n c : Nat) (l : List (Int × Int)) (x y : Int) (w : World) (h : Pts w w.heap.size A n c l) (hA : A = none → n = 0 ∧ c = 0) (hn : n ≤ 45) (ho : outErr l = 0) (hq : placeErr x y ≠ 0) :
    Calls Try.prog 6 #[.slice A n c, .agg #[.int .i64 x, .int .i64 y]] w fun e w' => Below w.heap.size w w' ∧ e = .returned (.bool true) := by
  have hm := h.max
  have hcp := h.cap
  have hf : decide (n ≤ 45) = true := by simp; omega
  have HFEW := Lib.hid (fun W : World => few_any A n c W (by omega))
  rw [hf] at HFEW
  have H : Hid (∀ w', Below w.heap.size w w' → Pts w' w'.heap.size A n c l) := fun w' hb => h.below hb (Nat.le_refl _) hb.size
  have HPO := Lib.hid (fun (W : World) (hb : Below w.heap.size w W) => points_any A n c l W (h.below hb (Nat.le_refl _) hb.size) hA (by omega))
  have HWH := Lib.hid (fun (A : Option Addr) (c : Nat) (W : World) (hp : Pts W W.heap.size A n c l) => Where_any A n c l x y W hp)
  have HDI := Lib.hid (fun (A : Option Addr) (c : Nat) (W : World) (hp : Pts W W.heap.size A n c l) => Distance_any A n c l x y W hp)
  have HRE := Lib.hid (fun (W : World) (hp : Pts W W.heap.size A n c l) => refCheckOutline_any A n c l W hp)
  have HPE := Lib.hid (fun (W : World) => pointErr_any x y W)
  have he : opErr l x y = placeErr x y := by unfold opErr; rw [if_pos ho]
  have hne : (placeErr x y != 0) = true := by simpa using hq
  have hne2 : (placeErr x y == 0) = false := by simpa using hq
  rw [if_neg (by rw [he]; exact hq), he] at HWH HDI
  rw [ho] at HRE
  generalize placeErr x y = E at *
  clear h hA hf ho he hq
  go_enter Try.func6, Try.ntmps6
  go_wp2_with fail
  refine (awake_any _).mono ?_
  rintro e w1 ⟨hb1, rfl⟩
  have k1 : Bk w1 w.heap.size 57 #[.int .i64 x, .int .i64 y] := (by repeat (first | with_reducible assumption | with_reducible exact Bk.at_ (by simp) | with_reducible refine Bk.alloc ?_ _ | with_reducible refine Bk.drew ?_ | with_reducible refine Bk.drewN ?_ _ | with_reducible refine Bk.step (by with_reducible assumption) ?_ (by first | omega | (simp <;> omega))))
  have HK1 := Lib.hid k1
  have HB1 : Hid (Below w.heap.size w w1) := Lib.hid (by repeat (first | with_reducible exact Below.refl _ _ | with_reducible assumption | with_reducible refine Below.drew ?_ | with_reducible refine Below.drewN ?_ _ | with_reducible refine Below.alloc2 ?_ _ | with_reducible refine Below.alloc ?_ (by first | omega | (simp <;> omega)) _ | with_reducible refine Below.setCell ?_ (by first | omega | (simp <;> omega)) _ | with_reducible refine Below.step2 (by with_reducible assumption) ?_ | with_reducible refine Below.step (by with_reducible assumption) ?_ (by first | omega | (simp <;> omega))))
  have o1 := k1.lt
  obtain ⟨⟨p0, p1⟩, -⟩ := k1.two
  clear hb1 k1
  go_wp2_with fail
  refine (HFEW.out _).mono ?_
  rintro e w1' ⟨rfl, rfl⟩
  go_wp2_with fail
  go_region_held3 (fun w' => w'.cell? ⟨w.heap.size, 0, none⟩ = some (.int .i64 x) ∧ w'.cell? ⟨w.heap.size, 1, none⟩ = some (.int .i64 y)) (go_keep)
    (first
      | (go_at_call 21; refine (HPO.out _ (by have hb := HB1.out; exact (by repeat (first | with_reducible exact Below.refl _ _ | with_reducible assumption | with_reducible refine Below.drew ?_ | with_reducible refine Below.drewN ?_ _ | with_reducible refine Below.alloc2 ?_ _ | with_reducible refine Below.alloc ?_ (by first | omega | (simp <;> omega)) _ | with_reducible refine Below.setCell ?_ (by first | omega | (simp <;> omega)) _ | with_reducible refine Below.step2 (by with_reducible assumption) ?_ | with_reducible refine Below.step (by with_reducible assumption) ?_ (by first | omega | (simp <;> omega)))))).mono ?_; rintro e w2 ⟨hb2, A2, c2, rfl, hp2⟩; obtain ⟨hc2, -⟩ := bcell hb2; have hz2 := hb2.size; (try simp at hz2); have o2 : w.heap.size < w2.heap.size := (by omega); replace p0 := (hc2 _ 0 (by first | omega | (simp <;> omega))).trans p0; replace p1 := (hc2 _ 1 (by first | omega | (simp <;> omega))).trans p1; have HB2 : Hid (Below w.heap.size w w2) := Lib.hid (by have hb := HB1.out; exact (by repeat (first | with_reducible exact Below.refl _ _ | with_reducible assumption | with_reducible refine Below.drew ?_ | with_reducible refine Below.drewN ?_ _ | with_reducible refine Below.alloc2 ?_ _ | with_reducible refine Below.alloc ?_ (by first | omega | (simp <;> omega)) _ | with_reducible refine Below.setCell ?_ (by first | omega | (simp <;> omega)) _ | with_reducible refine Below.step2 (by with_reducible assumption) ?_ | with_reducible refine Below.step (by with_reducible assumption) ?_ (by first | omega | (simp <;> omega))))); have HP2 := Lib.hid hp2; clear hb2 hc2 hp2)
      | (go_at_call 30; refine (HWH.out A2 c2 _ HP2.out).mono ?_; rintro e w3 ⟨hb3, rfl⟩; obtain ⟨hc3, -⟩ := bcell hb3; have hz3 := hb3.size; have o3 : w.heap.size < w3.heap.size := (by omega); replace p0 := (hc3 _ 0 o2).trans p0; replace p1 := (hc3 _ 1 o2).trans p1; have HB3 : Hid (Below w.heap.size w w3) := Lib.hid (Below.step2 hb3 HB2.out); clear hb3 hc3))
  go_wp2_with fail
  go_region_held3 (fun w' => w'.cell? ⟨w.heap.size, 0, none⟩ = some (.int .i64 x) ∧ w'.cell? ⟨w.heap.size, 1, none⟩ = some (.int .i64 y)) (go_keep)
    (first
      | (go_at_call 21; refine (HPO.out _ (by have hb := HB3.out; exact (by repeat (first | with_reducible exact Below.refl _ _ | with_reducible assumption | with_reducible refine Below.drew ?_ | with_reducible refine Below.drewN ?_ _ | with_reducible refine Below.alloc2 ?_ _ | with_reducible refine Below.alloc ?_ (by first | omega | (simp <;> omega)) _ | with_reducible refine Below.setCell ?_ (by first | omega | (simp <;> omega)) _ | with_reducible refine Below.step2 (by with_reducible assumption) ?_ | with_reducible refine Below.step (by with_reducible assumption) ?_ (by first | omega | (simp <;> omega)))))).mono ?_; rintro e w4 ⟨hb4, A4, c4, rfl, hp4⟩; obtain ⟨hc4, -⟩ := bcell hb4; have hz4 := hb4.size; (try simp at hz4); have o4 : w.heap.size < w4.heap.size := (by omega); replace p0 := (hc4 _ 0 (by first | omega | (simp <;> omega))).trans p0; replace p1 := (hc4 _ 1 (by first | omega | (simp <;> omega))).trans p1; have HB4 : Hid (Below w.heap.size w w4) := Lib.hid (by have hb := HB3.out; exact (by repeat (first | with_reducible exact Below.refl _ _ | with_reducible assumption | with_reducible refine Below.drew ?_ | with_reducible refine Below.drewN ?_ _ | with_reducible refine Below.alloc2 ?_ _ | with_reducible refine Below.alloc ?_ (by first | omega | (simp <;> omega)) _ | with_reducible refine Below.setCell ?_ (by first | omega | (simp <;> omega)) _ | with_reducible refine Below.step2 (by with_reducible assumption) ?_ | with_reducible refine Below.step (by with_reducible assumption) ?_ (by first | omega | (simp <;> omega))))); have HP4 := Lib.hid hp4; clear hb4 hc4 hp4)
      | (go_at_call 31; refine (HDI.out A4 c4 _ HP4.out).mono ?_; rintro e w5 ⟨hb5, rfl⟩; obtain ⟨hc5, -⟩ := bcell hb5; have hz5 := hb5.size; have o5 : w.heap.size < w5.heap.size := (by omega); replace p0 := (hc5 _ 0 o4).trans p0; replace p1 := (hc5 _ 1 o4).trans p1; have HB5 : Hid (Below w.heap.size w w5) := Lib.hid (Below.step2 hb5 HB4.out); clear hb5 hc5))
  go_wp2_with fail
  refine (HRE.out _ (H.out _ HB5.out)).mono ?_
  rintro e w6 ⟨hb6, rfl⟩
  obtain ⟨hc6, -⟩ := bcell hb6
  have hz6 := hb6.size
  have o6 : w.heap.size < w6.heap.size := by omega
  replace p0 := (hc6 _ 0 o5).trans p0
  replace p1 := (hc6 _ 1 o5).trans p1
  have HB6 : Hid (Below w.heap.size w w6) := Lib.hid (Below.step2 hb6 HB5.out)
  clear hb6 hc6
  go_wp2_with fail
  refine (HPE.out _).mono ?_
  rintro e w7 ⟨hb7, rfl⟩
  have HB7 : Hid (Below w.heap.size w w7) := Lib.hid (Below.step2 hb7 HB6.out)
  go_wp2
  go_ret
  exact ⟨HB7.out, rfl⟩

set_option maxRecDepth 100000 in
set_option maxHeartbeats 4000000 in
theorem lawPlaces_good (A : Option Addr) (n c : Nat) (l : List (Int × Int)) (x y : Int) (w : World) (h : Pts w w.heap.size A n c l) (hA : A = none → n = 0 ∧ c = 0) (hn : n ≤ 45) (ho : outErr l = 0) (hq : placeErr x y = 0) :
    Calls Try.prog 6 #[.slice A n c, .agg #[.int .i64 x, .int .i64 y]] w fun e w' => Below w.heap.size w w' ∧ e = .returned (.bool true) := by
  have hm := h.max
  have hcp := h.cap
  have hf : decide (n ≤ 45) = true := by simp; omega
  have HFEW := Lib.hid (fun W : World => few_any A n c W (by omega))
  rw [hf] at HFEW
  have H : Hid (∀ w', Below w.heap.size w w' → Pts w' w'.heap.size A n c l) := fun w' hb => h.below hb (Nat.le_refl _) hb.size
  have HPO := Lib.hid (fun (W : World) (hb : Below w.heap.size w W) => points_any A n c l W (h.below hb (Nat.le_refl _) hb.size) hA (by omega))
  have HWH := Lib.hid (fun (A : Option Addr) (c : Nat) (W : World) (hp : Pts W W.heap.size A n c l) => Where_any A n c l x y W hp)
  have HDI := Lib.hid (fun (A : Option Addr) (c : Nat) (W : World) (hp : Pts W W.heap.size A n c l) => Distance_any A n c l x y W hp)
  have HRE := Lib.hid (fun (W : World) (hp : Pts W W.heap.size A n c l) => refCheckOutline_any A n c l W hp)
  have HPE := Lib.hid (fun (W : World) => pointErr_any x y W)
  have he : opErr l x y = 0 := by unfold opErr; rw [if_pos ho, hq]
  obtain ⟨h4, h40, hin, hal, -, -⟩ := outErr_ok ho
  obtain ⟨hx, hy⟩ := placeErr_ok hq
  have hl := h.len
  have hv : ∀ k, k < n → dirP (pt l k) (pt l (nx l k)) ≠ -1 := fun k hk => alt_dir hal (by rw [hl]; exact hk)
  have HRW := Lib.hid (fun (W : World) (hp : Pts W W.heap.size A n c l) => refWhere_any A n c l x y W hp hv)
  have HRD := Lib.hid (fun (W : World) (hp : Pts W W.heap.size A n c l) => refDistance_any A n c l x y W hp hin (by omega) hv hx hy)
  rw [if_pos he, he] at HWH HDI
  rw [ho] at HRE
  rw [hq] at HPE
  generalize whereS (sides l) x y = R at *
  generalize distR (sides l) x y = D at *
  clear h hA hf ho he hq h4 h40 hin hal hx hy hl hv
  go_enter Try.func6, Try.ntmps6
  go_wp2_with fail
  refine (awake_any _).mono ?_
  rintro e w1 ⟨hb1, rfl⟩
  have k1 : Bk w1 w.heap.size 57 #[.int .i64 x, .int .i64 y] := (by repeat (first | with_reducible assumption | with_reducible exact Bk.at_ (by simp) | with_reducible refine Bk.alloc ?_ _ | with_reducible refine Bk.drew ?_ | with_reducible refine Bk.drewN ?_ _ | with_reducible refine Bk.step (by with_reducible assumption) ?_ (by first | omega | (simp <;> omega))))
  have HK1 := Lib.hid k1
  have HB1 : Hid (Below w.heap.size w w1) := Lib.hid (by repeat (first | with_reducible exact Below.refl _ _ | with_reducible assumption | with_reducible refine Below.drew ?_ | with_reducible refine Below.drewN ?_ _ | with_reducible refine Below.alloc2 ?_ _ | with_reducible refine Below.alloc ?_ (by first | omega | (simp <;> omega)) _ | with_reducible refine Below.setCell ?_ (by first | omega | (simp <;> omega)) _ | with_reducible refine Below.step2 (by with_reducible assumption) ?_ | with_reducible refine Below.step (by with_reducible assumption) ?_ (by first | omega | (simp <;> omega))))
  have o1 := k1.lt
  obtain ⟨⟨p0, p1⟩, -⟩ := k1.two
  clear hb1 k1
  go_wp2_with fail
  refine (HFEW.out _).mono ?_
  rintro e w1' ⟨rfl, rfl⟩
  go_wp2_with fail
  go_region_held3 (fun w' => w'.cell? ⟨w.heap.size, 0, none⟩ = some (.int .i64 x) ∧ w'.cell? ⟨w.heap.size, 1, none⟩ = some (.int .i64 y)) (go_keep)
    (first
      | (go_at_call 21; refine (HPO.out _ (by have hb := HB1.out; exact (by repeat (first | with_reducible exact Below.refl _ _ | with_reducible assumption | with_reducible refine Below.drew ?_ | with_reducible refine Below.drewN ?_ _ | with_reducible refine Below.alloc2 ?_ _ | with_reducible refine Below.alloc ?_ (by first | omega | (simp <;> omega)) _ | with_reducible refine Below.setCell ?_ (by first | omega | (simp <;> omega)) _ | with_reducible refine Below.step2 (by with_reducible assumption) ?_ | with_reducible refine Below.step (by with_reducible assumption) ?_ (by first | omega | (simp <;> omega)))))).mono ?_; rintro e w2 ⟨hb2, A2, c2, rfl, hp2⟩; obtain ⟨hc2, -⟩ := bcell hb2; have hz2 := hb2.size; (try simp at hz2); have o2 : w.heap.size < w2.heap.size := (by omega); replace p0 := (hc2 _ 0 (by first | omega | (simp <;> omega))).trans p0; replace p1 := (hc2 _ 1 (by first | omega | (simp <;> omega))).trans p1; have HB2 : Hid (Below w.heap.size w w2) := Lib.hid (by have hb := HB1.out; exact (by repeat (first | with_reducible exact Below.refl _ _ | with_reducible assumption | with_reducible refine Below.drew ?_ | with_reducible refine Below.drewN ?_ _ | with_reducible refine Below.alloc2 ?_ _ | with_reducible refine Below.alloc ?_ (by first | omega | (simp <;> omega)) _ | with_reducible refine Below.setCell ?_ (by first | omega | (simp <;> omega)) _ | with_reducible refine Below.step2 (by with_reducible assumption) ?_ | with_reducible refine Below.step (by with_reducible assumption) ?_ (by first | omega | (simp <;> omega))))); have HP2 := Lib.hid hp2; clear hb2 hc2 hp2)
      | (go_at_call 30; refine (HWH.out A2 c2 _ HP2.out).mono ?_; rintro e w3 ⟨hb3, rfl⟩; obtain ⟨hc3, -⟩ := bcell hb3; have hz3 := hb3.size; have o3 : w.heap.size < w3.heap.size := (by omega); replace p0 := (hc3 _ 0 o2).trans p0; replace p1 := (hc3 _ 1 o2).trans p1; have HB3 : Hid (Below w.heap.size w w3) := Lib.hid (Below.step2 hb3 HB2.out); clear hb3 hc3))
  go_wp2_with fail
  go_region_held3 (fun w' => w'.cell? ⟨w.heap.size, 0, none⟩ = some (.int .i64 x) ∧ w'.cell? ⟨w.heap.size, 1, none⟩ = some (.int .i64 y)) (go_keep)
    (first
      | (go_at_call 21; refine (HPO.out _ (by have hb := HB3.out; exact (by repeat (first | with_reducible exact Below.refl _ _ | with_reducible assumption | with_reducible refine Below.drew ?_ | with_reducible refine Below.drewN ?_ _ | with_reducible refine Below.alloc2 ?_ _ | with_reducible refine Below.alloc ?_ (by first | omega | (simp <;> omega)) _ | with_reducible refine Below.setCell ?_ (by first | omega | (simp <;> omega)) _ | with_reducible refine Below.step2 (by with_reducible assumption) ?_ | with_reducible refine Below.step (by with_reducible assumption) ?_ (by first | omega | (simp <;> omega)))))).mono ?_; rintro e w4 ⟨hb4, A4, c4, rfl, hp4⟩; obtain ⟨hc4, -⟩ := bcell hb4; have hz4 := hb4.size; (try simp at hz4); have o4 : w.heap.size < w4.heap.size := (by omega); replace p0 := (hc4 _ 0 (by first | omega | (simp <;> omega))).trans p0; replace p1 := (hc4 _ 1 (by first | omega | (simp <;> omega))).trans p1; have HB4 : Hid (Below w.heap.size w w4) := Lib.hid (by have hb := HB3.out; exact (by repeat (first | with_reducible exact Below.refl _ _ | with_reducible assumption | with_reducible refine Below.drew ?_ | with_reducible refine Below.drewN ?_ _ | with_reducible refine Below.alloc2 ?_ _ | with_reducible refine Below.alloc ?_ (by first | omega | (simp <;> omega)) _ | with_reducible refine Below.setCell ?_ (by first | omega | (simp <;> omega)) _ | with_reducible refine Below.step2 (by with_reducible assumption) ?_ | with_reducible refine Below.step (by with_reducible assumption) ?_ (by first | omega | (simp <;> omega))))); have HP4 := Lib.hid hp4; clear hb4 hc4 hp4)
      | (go_at_call 31; refine (HDI.out A4 c4 _ HP4.out).mono ?_; rintro e w5 ⟨hb5, rfl⟩; obtain ⟨hc5, -⟩ := bcell hb5; have hz5 := hb5.size; have o5 : w.heap.size < w5.heap.size := (by omega); replace p0 := (hc5 _ 0 o4).trans p0; replace p1 := (hc5 _ 1 o4).trans p1; have HB5 : Hid (Below w.heap.size w w5) := Lib.hid (Below.step2 hb5 HB4.out); clear hb5 hc5))
  go_wp2_with fail
  refine (HRE.out _ (H.out _ HB5.out)).mono ?_
  rintro e w6 ⟨hb6, rfl⟩
  obtain ⟨hc6, -⟩ := bcell hb6
  have hz6 := hb6.size
  have o6 : w.heap.size < w6.heap.size := by omega
  replace p0 := (hc6 _ 0 o5).trans p0
  replace p1 := (hc6 _ 1 o5).trans p1
  have HB6 : Hid (Below w.heap.size w w6) := Lib.hid (Below.step2 hb6 HB5.out)
  clear hb6 hc6
  go_wp2_with fail
  refine (HPE.out _).mono ?_
  rintro e w7 ⟨hb7, rfl⟩
  obtain ⟨hc7, -⟩ := bcell hb7
  have hz7 := hb7.size
  have o7 : w.heap.size < w7.heap.size := by omega
  replace p0 := (hc7 _ 0 o6).trans p0
  replace p1 := (hc7 _ 1 o6).trans p1
  have HB7 : Hid (Below w.heap.size w w7) := Lib.hid (Below.step2 hb7 HB6.out)
  clear hb7 hc7
  go_wp2_with fail
  refine (HRW.out _ (H.out _ HB7.out)).mono ?_
  rintro e w8 ⟨hb8, rfl⟩
  obtain ⟨hc8, -⟩ := bcell hb8
  replace p0 := (hc8 _ 0 o7).trans p0
  replace p1 := (hc8 _ 1 o7).trans p1
  have HB8 : Hid (Below w.heap.size w w8) := Lib.hid (Below.step2 hb8 HB7.out)
  clear hb8 hc8
  go_wp2_with fail
  refine (HRD.out _ (H.out _ HB8.out)).mono ?_
  rintro e w9 ⟨hb9, rfl⟩
  have HB9 : Hid (Below w.heap.size w w9) := Lib.hid (Below.step2 hb9 HB8.out)
  clear hb9
  go_wp2
  go_ret
  exact ⟨HB9.out, by simp⟩

end Go.Proofs.Ytbfbjpnmgcpjlaa
