/- Chapter 6, walks: CheckGround of both sides. -/
import Derived.Test.YtgljncfijcamhaaGreatDoorGr6
import Derived.Test.YtgljncfijcamhaaGreatDoorRule6
namespace Go.Proofs.YtgljncfijcamhaaGreatDoor
open Go.RowKit

def ok3 (x : Gr) : Bool := inR (-1000000) 1000000 x.a && (inR (-1000000) 1000000 x.b && inR (-1000000) 1000000 x.c)
def okB (pv : Option Int) (x : Gr) : Bool := decide (x.a < x.b ∧ (∀ p, pv = some p → x.a = p))
def grFrom : Option Int → List Gr → Int
  | _, [] => 0
  | pv, x :: r => if ok3 x && inR 1 1000000 x.d then (if okB pv x then grFrom (some x.b) r else 10) else 2
def groundErr (l : List Gr) : Int := if inR 1 20 l.length then grFrom none l else 11
def pvAt (l : List Gr) : Nat → Option Int
  | 0 => none
  | k + 1 => (l[k]?).map (·.b)
theorem drop_step {α : Type} {l : List α} {k : Nat} {x : α} (h : l[k]? = some x) : l.drop k = x :: l.drop (k + 1) := by
  obtain ⟨hk, rfl⟩ := List.getElem?_eq_some_iff.1 h
  exact List.drop_eq_getElem_cons hk
theorem okB_no {pv : Option Int} {x : Gr} (h : ¬ x.a < x.b) : okB pv x = false := decide_eq_false fun h2 => h h2.1
theorem okB_yes {pv : Option Int} {x : Gr} (h : x.a < x.b) (h2 : ∀ p, pv = some p → x.a = p) : okB pv x = true := decide_eq_true ⟨h, h2⟩
theorem okB_gap {p : Int} {x : Gr} (h : x.a ≠ p) : okB (some p) x = false := decide_eq_false fun h2 => h (h2.2 p rfl)
theorem pvAt_succ {l : List Gr} {j k : Nat} {y : Gr} (hk : k = j + 1) (hy : l[j]? = some y) : pvAt l k = some y.b := by subst hk; simp [pvAt, hy]
theorem grFrom_cons (pv : Option Int) (x : Gr) (r : List Gr) : grFrom pv (x :: r) = if ok3 x && inR 1 1000000 x.d then (if okB pv x then grFrom (some x.b) r else 10) else 2 := rfl
theorem grFrom_bad {l : List Gr} {k : Nat} {x : Gr} (hx : l[k]? = some x) (h : grFrom none l = grFrom (pvAt l k) (l.drop k)) (h1 : (ok3 x && inR 1 1000000 x.d) = false) : grFrom none l = 2 := by
  rw [h, drop_step hx, grFrom_cons, h1]; rfl
theorem grFrom_order {l : List Gr} {k : Nat} {x : Gr} (hx : l[k]? = some x) (h : grFrom none l = grFrom (pvAt l k) (l.drop k)) (h1 : (ok3 x && inR 1 1000000 x.d) = true) (h2 : okB (pvAt l k) x = false) : grFrom none l = 10 := by
  rw [h, drop_step hx, grFrom_cons, h1, h2]; rfl
theorem grFrom_next {l : List Gr} {k : Nat} {x : Gr} (hx : l[k]? = some x) (h : grFrom none l = grFrom (pvAt l k) (l.drop k)) (h1 : (ok3 x && inR 1 1000000 x.d) = true) (h2 : okB (pvAt l k) x = true) : grFrom none l = grFrom (pvAt l (k + 1)) (l.drop (k + 1)) := by
  rw [h, drop_step hx, grFrom_cons, h1, h2]
  simp [pvAt, hx]
theorem grFrom_end {l : List Gr} {k : Nat} (hk : l.length ≤ k) (h : grFrom none l = grFrom (pvAt l k) (l.drop k)) : grFrom none l = 0 := by
  rw [h, List.drop_eq_nil_of_le hk]; rfl

theorem Bk.fourc {w : World} {g t : Nat} {a b c d : Value} (h : Bk w g t #[a, b, c, d]) : w.cell? ⟨g, 0, none⟩ = some a ∧ w.cell? ⟨g, 1, none⟩ = some b ∧ w.cell? ⟨g, 2, none⟩ = some c ∧ w.cell? ⟨g, 3, none⟩ = some d :=
  ⟨by simpa using h.cell 0, by simpa using h.cell 1, by simpa using h.cell 2, by simpa using h.cell 3⟩
set_option maxHeartbeats 8000000 in
theorem checkGround_any (A : Option Addr) (n c : Nat) (l : List Gr) (w : World) (h : Grs w w.heap.size A n c l) :
    Calls Tryz.prog 105 #[.slice A n c] w fun e w' => Below w.heap.size w w' ∧ e = .returned (.int .i64 (groundErr l)) := by
  have hcap := h.cap
  have hmax := h.max
  have HLEN := Lib.hid h.len
  have H : Hid (∀ w', Below w.heap.size w w' → Grs w' w.heap.size A n c l) := fun w' hb => h.below hb (Nat.le_refl _) (Nat.le_refl _)
  unfold groundErr
  rw [HLEN.out]
  obtain ⟨b0, e0⟩ : ∃ b, inR 1 20 n = b := ⟨_, rfl⟩
  rw [e0]
  have E0 := Lib.hid e0
  clear e0 h
  cases b0
  · go_enter Tryz.func105, Tryz.ntmps105
    go_wp2_with (go_at_call 56; with_reducible refine (areFrom_one 1 20 (n : Int) _ _ ?_ ?_ _ E0.out).mono ?_; (focus (simp; done)); (focus (simp; done)); rintro e w1 ⟨hb1, rfl⟩)
    go_ret
    exact ⟨(by repeat (first | with_reducible exact Below.refl _ _ | with_reducible assumption | with_reducible refine Below.drew ?_ | with_reducible refine Below.drewN ?_ _ | with_reducible refine Below.alloc2 ?_ _ | with_reducible refine Below.alloc ?_ (by first | omega | (simp <;> omega)) _ | with_reducible refine Below.setCell ?_ (by first | omega | (simp <;> omega)) _ | with_reducible refine Below.step2 (by with_reducible assumption) ?_ | with_reducible refine Below.step (by with_reducible assumption) ?_ (by first | omega | (simp <;> omega)))), rfl⟩
  · simp only [if_true]
    obtain ⟨G, hG⟩ : ∃ G, grFrom none l = G := ⟨_, rfl⟩
    rw [hG]
    have HG := Lib.hid hG
    clear hG
    go_enter Tryz.func105, Tryz.ntmps105
    go_wp2_with (go_at_call 56; with_reducible refine (areFrom_one 1 20 (n : Int) _ _ ?_ ?_ _ E0.out).mono ?_; (focus (simp; done)); (focus (simp; done)); rintro e w1 ⟨hb1, rfl⟩)
    go_loopw [3, 4, 12] (fun _ _ i wr => ∃ k : Nat, k ≤ n ∧ i = .int .i64 k ∧ Hid (grFrom none l = grFrom (pvAt l k) (l.drop k)) ∧ Below w.heap.size w wr) (fun _ _ i _ => n - (intOf i).toNat)
    case atStart => exact ⟨0, Nat.zero_le _, rfl, Lib.hid rfl, (by repeat (first | with_reducible exact Below.refl _ _ | with_reducible assumption | with_reducible refine Below.drew ?_ | with_reducible refine Below.drewN ?_ _ | with_reducible refine Below.alloc2 ?_ _ | with_reducible refine Below.alloc ?_ (by first | omega | (simp <;> omega)) _ | with_reducible refine Below.setCell ?_ (by first | omega | (simp <;> omega)) _ | with_reducible refine Below.step2 (by with_reducible assumption) ?_ | with_reducible refine Below.step (by with_reducible assumption) ?_ (by first | omega | (simp <;> omega))))⟩
    case round =>
      obtain ⟨k, hk, rfl, HV, hb⟩ := hrel
      by_cases hlt : k < n
      · obtain ⟨b, o, ⟨xa, xb, xc, xd⟩, rfl, hbb, hx, c0, c1, c2, c3⟩ := (H.out _ hb).at_ hlt
        have HX := Lib.hid hx
        have HB := Lib.hid hb
        have ow := hb.size
        have ob : b < wr.heap.size := by omega
        clear hx
        obtain ⟨b1, e1⟩ : ∃ v, (inR (-1000000) 1000000 xa && (inR (-1000000) 1000000 xb && inR (-1000000) 1000000 xc)) = v := ⟨_, rfl⟩
        obtain ⟨b2, e2⟩ : ∃ v, inR 1 1000000 xd = v := ⟨_, rfl⟩
        have E1 := Lib.hid e1
        have E2 := Lib.hid e2
        clear e1 e2
        dsimp only at c0 c1 c2 c3
        have HC : Hid (∀ w', Below w.heap.size w w' → True) := Lib.hid fun _ _ => trivial
        cases b1
        · cases b2
          · go_wp2_with (first
  | (go_at_call 56; with_reducible refine (areFrom_three (-1000000) 1000000 xa xb xc _ _ ?_ ?_ ?_ ?_ _ E1.out).mono ?_; (focus (simp; done)); (focus (simp; done)); (focus (simp; done)); (focus (simp; done)); rintro e w1 ⟨hb1, rfl⟩; have hbk1 : Bk w1 wr.heap.size 115 #[.int .i64 xa, .int .i64 xb, .int .i64 xc, .int .i64 xd] := (by repeat (first | with_reducible assumption | with_reducible exact Bk.at_ (by first | (simp; done) | omega) | with_reducible refine Bk.alloc ?_ _ | with_reducible refine Bk.drew ?_ | with_reducible refine Bk.drewN ?_ _ | with_reducible refine Bk.step (by with_reducible assumption) ?_ (by first | omega | (simp <;> omega)))); obtain ⟨q0, q1, q2, q3⟩ := hbk1.fourc; have oz1 := hb1.size; (try simp at oz1); have hb0 := HB.out; have hbx : Below w.heap.size w w1 := (by repeat (first | with_reducible exact Below.refl _ _ | with_reducible assumption | with_reducible refine Below.drew ?_ | with_reducible refine Below.drewN ?_ _ | with_reducible refine Below.alloc2 ?_ _ | with_reducible refine Below.alloc ?_ (by first | omega | (simp <;> omega)) _ | with_reducible refine Below.setCell ?_ (by first | omega | (simp <;> omega)) _ | with_reducible refine Below.step2 (by with_reducible assumption) ?_ | with_reducible refine Below.step (by with_reducible assumption) ?_ (by first | omega | (simp <;> omega)))); have y1 := HC.out _ hbx; have HBX := Lib.hid hbx; clear hb0 hbx)
  | (go_at_call 56; with_reducible refine (areFrom_one 1 1000000 xd _ _ ?_ ?_ _ E2.out).mono ?_; (focus (simp; done)); (focus (simp; done)); rintro e w1 ⟨hb1, rfl⟩; have hbk1 : Bk w1 wr.heap.size 115 #[.int .i64 xa, .int .i64 xb, .int .i64 xc, .int .i64 xd] := (by repeat (first | with_reducible assumption | with_reducible exact Bk.at_ (by first | (simp; done) | omega) | with_reducible refine Bk.alloc ?_ _ | with_reducible refine Bk.drew ?_ | with_reducible refine Bk.drewN ?_ _ | with_reducible refine Bk.step (by with_reducible assumption) ?_ (by first | omega | (simp <;> omega)))); obtain ⟨q0, q1, q2, q3⟩ := hbk1.fourc; have oz1 := hb1.size; (try simp at oz1); have hb0 := HB.out; have hbx : Below w.heap.size w w1 := (by repeat (first | with_reducible exact Below.refl _ _ | with_reducible assumption | with_reducible refine Below.drew ?_ | with_reducible refine Below.drewN ?_ _ | with_reducible refine Below.alloc2 ?_ _ | with_reducible refine Below.alloc ?_ (by first | omega | (simp <;> omega)) _ | with_reducible refine Below.setCell ?_ (by first | omega | (simp <;> omega)) _ | with_reducible refine Below.step2 (by with_reducible assumption) ?_ | with_reducible refine Below.step (by with_reducible assumption) ?_ (by first | omega | (simp <;> omega)))); have y1 := HC.out _ hbx; have HBX := Lib.hid hbx; clear hb0 hbx))
            go_ret
            have hb0 := HBX.out
            refine ⟨(by repeat (first | with_reducible exact Below.refl _ _ | with_reducible assumption | with_reducible refine Below.drew ?_ | with_reducible refine Below.drewN ?_ _ | with_reducible refine Below.alloc2 ?_ _ | with_reducible refine Below.alloc ?_ (by first | omega | (simp <;> omega)) _ | with_reducible refine Below.setCell ?_ (by first | omega | (simp <;> omega)) _ | with_reducible refine Below.step2 (by with_reducible assumption) ?_ | with_reducible refine Below.step (by with_reducible assumption) ?_ (by first | omega | (simp <;> omega)))), ret_int ?_⟩
            rw [← HG.out, grFrom_bad HX.out HV.out (by simp [ok3, E1.out, E2.out])]
          · go_wp2_with (first
  | (go_at_call 56; with_reducible refine (areFrom_three (-1000000) 1000000 xa xb xc _ _ ?_ ?_ ?_ ?_ _ E1.out).mono ?_; (focus (simp; done)); (focus (simp; done)); (focus (simp; done)); (focus (simp; done)); rintro e w1 ⟨hb1, rfl⟩; have hbk1 : Bk w1 wr.heap.size 115 #[.int .i64 xa, .int .i64 xb, .int .i64 xc, .int .i64 xd] := (by repeat (first | with_reducible assumption | with_reducible exact Bk.at_ (by first | (simp; done) | omega) | with_reducible refine Bk.alloc ?_ _ | with_reducible refine Bk.drew ?_ | with_reducible refine Bk.drewN ?_ _ | with_reducible refine Bk.step (by with_reducible assumption) ?_ (by first | omega | (simp <;> omega)))); obtain ⟨q0, q1, q2, q3⟩ := hbk1.fourc; have oz1 := hb1.size; (try simp at oz1); have hb0 := HB.out; have hbx : Below w.heap.size w w1 := (by repeat (first | with_reducible exact Below.refl _ _ | with_reducible assumption | with_reducible refine Below.drew ?_ | with_reducible refine Below.drewN ?_ _ | with_reducible refine Below.alloc2 ?_ _ | with_reducible refine Below.alloc ?_ (by first | omega | (simp <;> omega)) _ | with_reducible refine Below.setCell ?_ (by first | omega | (simp <;> omega)) _ | with_reducible refine Below.step2 (by with_reducible assumption) ?_ | with_reducible refine Below.step (by with_reducible assumption) ?_ (by first | omega | (simp <;> omega)))); have y1 := HC.out _ hbx; have HBX := Lib.hid hbx; clear hb0 hbx)
  | (go_at_call 56; with_reducible refine (areFrom_one 1 1000000 xd _ _ ?_ ?_ _ E2.out).mono ?_; (focus (simp; done)); (focus (simp; done)); rintro e w1 ⟨hb1, rfl⟩; have hbk1 : Bk w1 wr.heap.size 115 #[.int .i64 xa, .int .i64 xb, .int .i64 xc, .int .i64 xd] := (by repeat (first | with_reducible assumption | with_reducible exact Bk.at_ (by first | (simp; done) | omega) | with_reducible refine Bk.alloc ?_ _ | with_reducible refine Bk.drew ?_ | with_reducible refine Bk.drewN ?_ _ | with_reducible refine Bk.step (by with_reducible assumption) ?_ (by first | omega | (simp <;> omega)))); obtain ⟨q0, q1, q2, q3⟩ := hbk1.fourc; have oz1 := hb1.size; (try simp at oz1); have hb0 := HB.out; have hbx : Below w.heap.size w w1 := (by repeat (first | with_reducible exact Below.refl _ _ | with_reducible assumption | with_reducible refine Below.drew ?_ | with_reducible refine Below.drewN ?_ _ | with_reducible refine Below.alloc2 ?_ _ | with_reducible refine Below.alloc ?_ (by first | omega | (simp <;> omega)) _ | with_reducible refine Below.setCell ?_ (by first | omega | (simp <;> omega)) _ | with_reducible refine Below.step2 (by with_reducible assumption) ?_ | with_reducible refine Below.step (by with_reducible assumption) ?_ (by first | omega | (simp <;> omega)))); have y1 := HC.out _ hbx; have HBX := Lib.hid hbx; clear hb0 hbx))
            go_ret
            have hb0 := HBX.out
            refine ⟨(by repeat (first | with_reducible exact Below.refl _ _ | with_reducible assumption | with_reducible refine Below.drew ?_ | with_reducible refine Below.drewN ?_ _ | with_reducible refine Below.alloc2 ?_ _ | with_reducible refine Below.alloc ?_ (by first | omega | (simp <;> omega)) _ | with_reducible refine Below.setCell ?_ (by first | omega | (simp <;> omega)) _ | with_reducible refine Below.step2 (by with_reducible assumption) ?_ | with_reducible refine Below.step (by with_reducible assumption) ?_ (by first | omega | (simp <;> omega)))), ret_int ?_⟩
            rw [← HG.out, grFrom_bad HX.out HV.out (by simp [ok3, E1.out, E2.out])]
        cases b2
        · go_wp2_with (first
        | (go_at_call 56; with_reducible refine (areFrom_three (-1000000) 1000000 xa xb xc _ _ ?_ ?_ ?_ ?_ _ E1.out).mono ?_; (focus (simp; done)); (focus (simp; done)); (focus (simp; done)); (focus (simp; done)); rintro e w1 ⟨hb1, rfl⟩; have hbk1 : Bk w1 wr.heap.size 115 #[.int .i64 xa, .int .i64 xb, .int .i64 xc, .int .i64 xd] := (by repeat (first | with_reducible assumption | with_reducible exact Bk.at_ (by first | (simp; done) | omega) | with_reducible refine Bk.alloc ?_ _ | with_reducible refine Bk.drew ?_ | with_reducible refine Bk.drewN ?_ _ | with_reducible refine Bk.step (by with_reducible assumption) ?_ (by first | omega | (simp <;> omega)))); obtain ⟨q0, q1, q2, q3⟩ := hbk1.fourc; have oz1 := hb1.size; (try simp at oz1); have hb0 := HB.out; have hbx : Below w.heap.size w w1 := (by repeat (first | with_reducible exact Below.refl _ _ | with_reducible assumption | with_reducible refine Below.drew ?_ | with_reducible refine Below.drewN ?_ _ | with_reducible refine Below.alloc2 ?_ _ | with_reducible refine Below.alloc ?_ (by first | omega | (simp <;> omega)) _ | with_reducible refine Below.setCell ?_ (by first | omega | (simp <;> omega)) _ | with_reducible refine Below.step2 (by with_reducible assumption) ?_ | with_reducible refine Below.step (by with_reducible assumption) ?_ (by first | omega | (simp <;> omega)))); have y1 := HC.out _ hbx; have HBX := Lib.hid hbx; clear hb0 hbx)
        | (go_at_call 56; with_reducible refine (areFrom_one 1 1000000 xd _ _ ?_ ?_ _ E2.out).mono ?_; (focus (simp; done)); (focus (simp; done)); rintro e w1 ⟨hb1, rfl⟩; have hbk1 : Bk w1 wr.heap.size 115 #[.int .i64 xa, .int .i64 xb, .int .i64 xc, .int .i64 xd] := (by repeat (first | with_reducible assumption | with_reducible exact Bk.at_ (by first | (simp; done) | omega) | with_reducible refine Bk.alloc ?_ _ | with_reducible refine Bk.drew ?_ | with_reducible refine Bk.drewN ?_ _ | with_reducible refine Bk.step (by with_reducible assumption) ?_ (by first | omega | (simp <;> omega)))); obtain ⟨q0, q1, q2, q3⟩ := hbk1.fourc; have oz1 := hb1.size; (try simp at oz1); have hb0 := HB.out; have hbx : Below w.heap.size w w1 := (by repeat (first | with_reducible exact Below.refl _ _ | with_reducible assumption | with_reducible refine Below.drew ?_ | with_reducible refine Below.drewN ?_ _ | with_reducible refine Below.alloc2 ?_ _ | with_reducible refine Below.alloc ?_ (by first | omega | (simp <;> omega)) _ | with_reducible refine Below.setCell ?_ (by first | omega | (simp <;> omega)) _ | with_reducible refine Below.step2 (by with_reducible assumption) ?_ | with_reducible refine Below.step (by with_reducible assumption) ?_ (by first | omega | (simp <;> omega)))); have y1 := HC.out _ hbx; have HBX := Lib.hid hbx; clear hb0 hbx))
          go_ret
          have hb0 := HBX.out
          refine ⟨(by repeat (first | with_reducible exact Below.refl _ _ | with_reducible assumption | with_reducible refine Below.drew ?_ | with_reducible refine Below.drewN ?_ _ | with_reducible refine Below.alloc2 ?_ _ | with_reducible refine Below.alloc ?_ (by first | omega | (simp <;> omega)) _ | with_reducible refine Below.setCell ?_ (by first | omega | (simp <;> omega)) _ | with_reducible refine Below.step2 (by with_reducible assumption) ?_ | with_reducible refine Below.step (by with_reducible assumption) ?_ (by first | omega | (simp <;> omega)))), ret_int ?_⟩
          rw [← HG.out, grFrom_bad HX.out HV.out (by simp [ok3, E1.out, E2.out])]
        by_cases hab : xa < xb
        · have hab1 : decide (xb ≤ xa) = false := decide_eq_false (by omega)
          by_cases hk0 : k = 0
          · have hz0 : decide ((0 : Int) < (k : Int)) = false := decide_eq_false (by omega)
            have hz : ¬ (0 : Int) < (k : Int) := by omega
            have hz1 : ¬ 0 < k := by omega
            have hz2 : decide (0 < k) = false := decide_eq_false hz1
            have HK := Lib.hid hk0
            clear hk0
            (
                        go_wp2_with (first
            | (go_at_call 56; with_reducible refine (areFrom_three (-1000000) 1000000 xa xb xc _ _ ?_ ?_ ?_ ?_ _ E1.out).mono ?_; (focus (simp; done)); (focus (simp; done)); (focus (simp; done)); (focus (simp; done)); rintro e w1 ⟨hb1, rfl⟩; have hbk1 : Bk w1 wr.heap.size 115 #[.int .i64 xa, .int .i64 xb, .int .i64 xc, .int .i64 xd] := (by repeat (first | with_reducible assumption | with_reducible exact Bk.at_ (by first | (simp; done) | omega) | with_reducible refine Bk.alloc ?_ _ | with_reducible refine Bk.drew ?_ | with_reducible refine Bk.drewN ?_ _ | with_reducible refine Bk.step (by with_reducible assumption) ?_ (by first | omega | (simp <;> omega)))); obtain ⟨q0, q1, q2, q3⟩ := hbk1.fourc; have oz1 := hb1.size; (try simp at oz1); have hb0 := HB.out; have hbx : Below w.heap.size w w1 := (by repeat (first | with_reducible exact Below.refl _ _ | with_reducible assumption | with_reducible refine Below.drew ?_ | with_reducible refine Below.drewN ?_ _ | with_reducible refine Below.alloc2 ?_ _ | with_reducible refine Below.alloc ?_ (by first | omega | (simp <;> omega)) _ | with_reducible refine Below.setCell ?_ (by first | omega | (simp <;> omega)) _ | with_reducible refine Below.step2 (by with_reducible assumption) ?_ | with_reducible refine Below.step (by with_reducible assumption) ?_ (by first | omega | (simp <;> omega)))); have y1 := HC.out _ hbx; have HBX := Lib.hid hbx; clear hb0 hbx)
            | (go_at_call 56; with_reducible refine (areFrom_one 1 1000000 xd _ _ ?_ ?_ _ E2.out).mono ?_; (focus (simp; done)); (focus (simp; done)); rintro e w1 ⟨hb1, rfl⟩; have hbk1 : Bk w1 wr.heap.size 115 #[.int .i64 xa, .int .i64 xb, .int .i64 xc, .int .i64 xd] := (by repeat (first | with_reducible assumption | with_reducible exact Bk.at_ (by first | (simp; done) | omega) | with_reducible refine Bk.alloc ?_ _ | with_reducible refine Bk.drew ?_ | with_reducible refine Bk.drewN ?_ _ | with_reducible refine Bk.step (by with_reducible assumption) ?_ (by first | omega | (simp <;> omega)))); obtain ⟨q0, q1, q2, q3⟩ := hbk1.fourc; have oz1 := hb1.size; (try simp at oz1); have hb0 := HB.out; have hbx : Below w.heap.size w w1 := (by repeat (first | with_reducible exact Below.refl _ _ | with_reducible assumption | with_reducible refine Below.drew ?_ | with_reducible refine Below.drewN ?_ _ | with_reducible refine Below.alloc2 ?_ _ | with_reducible refine Below.alloc ?_ (by first | omega | (simp <;> omega)) _ | with_reducible refine Below.setCell ?_ (by first | omega | (simp <;> omega)) _ | with_reducible refine Below.step2 (by with_reducible assumption) ?_ | with_reducible refine Below.step (by with_reducible assumption) ?_ (by first | omega | (simp <;> omega)))); have y1 := HC.out _ hbx; have HBX := Lib.hid hbx; clear hb0 hbx))
                        go_quiet (fail)
                        go_wp2
                        go_roundw
                        case rel =>
                          have hb0 := HBX.out
                          exact ⟨k + 1, by omega, by go_num, Lib.hid (grFrom_next HX.out HV.out (by simp [ok3, E1.out, E2.out]) (okB_yes hab (by rw [HK.out]; intro p hp; cases hp))), (by repeat (first | with_reducible exact Below.refl _ _ | with_reducible assumption | with_reducible refine Below.drew ?_ | with_reducible refine Below.drewN ?_ _ | with_reducible refine Below.alloc2 ?_ _ | with_reducible refine Below.alloc ?_ (by first | omega | (simp <;> omega)) _ | with_reducible refine Below.setCell ?_ (by first | omega | (simp <;> omega)) _ | with_reducible refine Below.step2 (by with_reducible assumption) ?_ | with_reducible refine Below.step (by with_reducible assumption) ?_ (by first | omega | (simp <;> omega))))⟩
                        case measure => (simp [intOf]; omega))
          · obtain ⟨j, hj⟩ : ∃ j, k = j + 1 := ⟨k - 1, by omega⟩
            obtain ⟨b', o', ⟨ya, yb, yc, yd⟩, e, -, hy, -, d1, -, -⟩ := (H.out _ hb).at_ (show j < n by omega)
            obtain ⟨rfl, rfl⟩ : b = b' ∧ o = o' := by simpa using e
            dsimp only at d1
            have HC : Hid (∀ w', Below w.heap.size w w' → w'.cell? ⟨b, o + j * 4 + 1, none⟩ = some (.int .i64 yb)) := Lib.hid fun w' hb' => ((bcell hb').1 _ _ hbb).trans (((bcell hb).1 _ _ hbb).symm.trans d1)
            have HY := Lib.hid hy
            have hw1 : IntKind.i64.wrap ((k : Int) - 1) = (j : Int) := by rw [IntWalk.i64_in _ (by omega)]; omega
            have z0 : (0 : Int) < (k : Int) := by omega
            have z01 : 0 < k := by omega
            have z02 : decide (0 < k) = true := decide_eq_true z01
            have z00 : decide ((0 : Int) < (k : Int)) = true := decide_eq_true z0
            have z1 : (0 : Int) ≤ (j : Int) := by omega
            have z2 : (j : Int) < (n : Int) := by omega
            have HK := Lib.hid hj
            clear e hy hk0 hj
            by_cases hxy : xa = yb
            · obtain rfl : xa = yb := hxy
              (
                          go_wp2_with (first
              | (go_at_call 56; with_reducible refine (areFrom_three (-1000000) 1000000 xa xb xc _ _ ?_ ?_ ?_ ?_ _ E1.out).mono ?_; (focus (simp; done)); (focus (simp; done)); (focus (simp; done)); (focus (simp; done)); rintro e w1 ⟨hb1, rfl⟩; have hbk1 : Bk w1 wr.heap.size 115 #[.int .i64 xa, .int .i64 xb, .int .i64 xc, .int .i64 xd] := (by repeat (first | with_reducible assumption | with_reducible exact Bk.at_ (by first | (simp; done) | omega) | with_reducible refine Bk.alloc ?_ _ | with_reducible refine Bk.drew ?_ | with_reducible refine Bk.drewN ?_ _ | with_reducible refine Bk.step (by with_reducible assumption) ?_ (by first | omega | (simp <;> omega)))); obtain ⟨q0, q1, q2, q3⟩ := hbk1.fourc; have oz1 := hb1.size; (try simp at oz1); have hb0 := HB.out; have hbx : Below w.heap.size w w1 := (by repeat (first | with_reducible exact Below.refl _ _ | with_reducible assumption | with_reducible refine Below.drew ?_ | with_reducible refine Below.drewN ?_ _ | with_reducible refine Below.alloc2 ?_ _ | with_reducible refine Below.alloc ?_ (by first | omega | (simp <;> omega)) _ | with_reducible refine Below.setCell ?_ (by first | omega | (simp <;> omega)) _ | with_reducible refine Below.step2 (by with_reducible assumption) ?_ | with_reducible refine Below.step (by with_reducible assumption) ?_ (by first | omega | (simp <;> omega)))); have y1 := HC.out _ hbx; have HBX := Lib.hid hbx; clear hb0 hbx)
              | (go_at_call 56; with_reducible refine (areFrom_one 1 1000000 xd _ _ ?_ ?_ _ E2.out).mono ?_; (focus (simp; done)); (focus (simp; done)); rintro e w1 ⟨hb1, rfl⟩; have hbk1 : Bk w1 wr.heap.size 115 #[.int .i64 xa, .int .i64 xb, .int .i64 xc, .int .i64 xd] := (by repeat (first | with_reducible assumption | with_reducible exact Bk.at_ (by first | (simp; done) | omega) | with_reducible refine Bk.alloc ?_ _ | with_reducible refine Bk.drew ?_ | with_reducible refine Bk.drewN ?_ _ | with_reducible refine Bk.step (by with_reducible assumption) ?_ (by first | omega | (simp <;> omega)))); obtain ⟨q0, q1, q2, q3⟩ := hbk1.fourc; have oz1 := hb1.size; (try simp at oz1); have hb0 := HB.out; have hbx : Below w.heap.size w w1 := (by repeat (first | with_reducible exact Below.refl _ _ | with_reducible assumption | with_reducible refine Below.drew ?_ | with_reducible refine Below.drewN ?_ _ | with_reducible refine Below.alloc2 ?_ _ | with_reducible refine Below.alloc ?_ (by first | omega | (simp <;> omega)) _ | with_reducible refine Below.setCell ?_ (by first | omega | (simp <;> omega)) _ | with_reducible refine Below.step2 (by with_reducible assumption) ?_ | with_reducible refine Below.step (by with_reducible assumption) ?_ (by first | omega | (simp <;> omega)))); have y1 := HC.out _ hbx; have HBX := Lib.hid hbx; clear hb0 hbx))
                          go_quiet (fail)
                          go_wp2
                          go_roundw
                          case rel =>
                            have hb0 := HBX.out
                            exact ⟨k + 1, by omega, by go_num, Lib.hid (grFrom_next HX.out HV.out (by simp [ok3, E1.out, E2.out]) (okB_yes hab (by rw [pvAt_succ HK.out HY.out]; intro p hp; cases hp; rfl))), (by repeat (first | with_reducible exact Below.refl _ _ | with_reducible assumption | with_reducible refine Below.drew ?_ | with_reducible refine Below.drewN ?_ _ | with_reducible refine Below.alloc2 ?_ _ | with_reducible refine Below.alloc ?_ (by first | omega | (simp <;> omega)) _ | with_reducible refine Below.setCell ?_ (by first | omega | (simp <;> omega)) _ | with_reducible refine Below.step2 (by with_reducible assumption) ?_ | with_reducible refine Below.step (by with_reducible assumption) ?_ (by first | omega | (simp <;> omega))))⟩
                          case measure => (simp [intOf]; omega))
            · have hxb : (xa != yb) = true := by simpa using hxy
              (
                          go_wp2_with (first
              | (go_at_call 56; with_reducible refine (areFrom_three (-1000000) 1000000 xa xb xc _ _ ?_ ?_ ?_ ?_ _ E1.out).mono ?_; (focus (simp; done)); (focus (simp; done)); (focus (simp; done)); (focus (simp; done)); rintro e w1 ⟨hb1, rfl⟩; have hbk1 : Bk w1 wr.heap.size 115 #[.int .i64 xa, .int .i64 xb, .int .i64 xc, .int .i64 xd] := (by repeat (first | with_reducible assumption | with_reducible exact Bk.at_ (by first | (simp; done) | omega) | with_reducible refine Bk.alloc ?_ _ | with_reducible refine Bk.drew ?_ | with_reducible refine Bk.drewN ?_ _ | with_reducible refine Bk.step (by with_reducible assumption) ?_ (by first | omega | (simp <;> omega)))); obtain ⟨q0, q1, q2, q3⟩ := hbk1.fourc; have oz1 := hb1.size; (try simp at oz1); have hb0 := HB.out; have hbx : Below w.heap.size w w1 := (by repeat (first | with_reducible exact Below.refl _ _ | with_reducible assumption | with_reducible refine Below.drew ?_ | with_reducible refine Below.drewN ?_ _ | with_reducible refine Below.alloc2 ?_ _ | with_reducible refine Below.alloc ?_ (by first | omega | (simp <;> omega)) _ | with_reducible refine Below.setCell ?_ (by first | omega | (simp <;> omega)) _ | with_reducible refine Below.step2 (by with_reducible assumption) ?_ | with_reducible refine Below.step (by with_reducible assumption) ?_ (by first | omega | (simp <;> omega)))); have y1 := HC.out _ hbx; have HBX := Lib.hid hbx; clear hb0 hbx)
              | (go_at_call 56; with_reducible refine (areFrom_one 1 1000000 xd _ _ ?_ ?_ _ E2.out).mono ?_; (focus (simp; done)); (focus (simp; done)); rintro e w1 ⟨hb1, rfl⟩; have hbk1 : Bk w1 wr.heap.size 115 #[.int .i64 xa, .int .i64 xb, .int .i64 xc, .int .i64 xd] := (by repeat (first | with_reducible assumption | with_reducible exact Bk.at_ (by first | (simp; done) | omega) | with_reducible refine Bk.alloc ?_ _ | with_reducible refine Bk.drew ?_ | with_reducible refine Bk.drewN ?_ _ | with_reducible refine Bk.step (by with_reducible assumption) ?_ (by first | omega | (simp <;> omega)))); obtain ⟨q0, q1, q2, q3⟩ := hbk1.fourc; have oz1 := hb1.size; (try simp at oz1); have hb0 := HB.out; have hbx : Below w.heap.size w w1 := (by repeat (first | with_reducible exact Below.refl _ _ | with_reducible assumption | with_reducible refine Below.drew ?_ | with_reducible refine Below.drewN ?_ _ | with_reducible refine Below.alloc2 ?_ _ | with_reducible refine Below.alloc ?_ (by first | omega | (simp <;> omega)) _ | with_reducible refine Below.setCell ?_ (by first | omega | (simp <;> omega)) _ | with_reducible refine Below.step2 (by with_reducible assumption) ?_ | with_reducible refine Below.step (by with_reducible assumption) ?_ (by first | omega | (simp <;> omega)))); have y1 := HC.out _ hbx; have HBX := Lib.hid hbx; clear hb0 hbx))
                          go_quiet (fail)
                          go_wp2
                          go_ret
                          have hb0 := HBX.out
                          refine ⟨(by repeat (first | with_reducible exact Below.refl _ _ | with_reducible assumption | with_reducible refine Below.drew ?_ | with_reducible refine Below.drewN ?_ _ | with_reducible refine Below.alloc2 ?_ _ | with_reducible refine Below.alloc ?_ (by first | omega | (simp <;> omega)) _ | with_reducible refine Below.setCell ?_ (by first | omega | (simp <;> omega)) _ | with_reducible refine Below.step2 (by with_reducible assumption) ?_ | with_reducible refine Below.step (by with_reducible assumption) ?_ (by first | omega | (simp <;> omega)))), ret_int ?_⟩
                          rw [← HG.out, grFrom_order HX.out HV.out (by simp [ok3, E1.out, E2.out]) (by rw [pvAt_succ HK.out HY.out]; exact okB_gap hxy)])
        · have hab1 : decide (xb ≤ xa) = true := decide_eq_true (by omega)
          (
                      go_wp2_with (first
          | (go_at_call 56; with_reducible refine (areFrom_three (-1000000) 1000000 xa xb xc _ _ ?_ ?_ ?_ ?_ _ E1.out).mono ?_; (focus (simp; done)); (focus (simp; done)); (focus (simp; done)); (focus (simp; done)); rintro e w1 ⟨hb1, rfl⟩; have hbk1 : Bk w1 wr.heap.size 115 #[.int .i64 xa, .int .i64 xb, .int .i64 xc, .int .i64 xd] := (by repeat (first | with_reducible assumption | with_reducible exact Bk.at_ (by first | (simp; done) | omega) | with_reducible refine Bk.alloc ?_ _ | with_reducible refine Bk.drew ?_ | with_reducible refine Bk.drewN ?_ _ | with_reducible refine Bk.step (by with_reducible assumption) ?_ (by first | omega | (simp <;> omega)))); obtain ⟨q0, q1, q2, q3⟩ := hbk1.fourc; have oz1 := hb1.size; (try simp at oz1); have hb0 := HB.out; have hbx : Below w.heap.size w w1 := (by repeat (first | with_reducible exact Below.refl _ _ | with_reducible assumption | with_reducible refine Below.drew ?_ | with_reducible refine Below.drewN ?_ _ | with_reducible refine Below.alloc2 ?_ _ | with_reducible refine Below.alloc ?_ (by first | omega | (simp <;> omega)) _ | with_reducible refine Below.setCell ?_ (by first | omega | (simp <;> omega)) _ | with_reducible refine Below.step2 (by with_reducible assumption) ?_ | with_reducible refine Below.step (by with_reducible assumption) ?_ (by first | omega | (simp <;> omega)))); have y1 := HC.out _ hbx; have HBX := Lib.hid hbx; clear hb0 hbx)
          | (go_at_call 56; with_reducible refine (areFrom_one 1 1000000 xd _ _ ?_ ?_ _ E2.out).mono ?_; (focus (simp; done)); (focus (simp; done)); rintro e w1 ⟨hb1, rfl⟩; have hbk1 : Bk w1 wr.heap.size 115 #[.int .i64 xa, .int .i64 xb, .int .i64 xc, .int .i64 xd] := (by repeat (first | with_reducible assumption | with_reducible exact Bk.at_ (by first | (simp; done) | omega) | with_reducible refine Bk.alloc ?_ _ | with_reducible refine Bk.drew ?_ | with_reducible refine Bk.drewN ?_ _ | with_reducible refine Bk.step (by with_reducible assumption) ?_ (by first | omega | (simp <;> omega)))); obtain ⟨q0, q1, q2, q3⟩ := hbk1.fourc; have oz1 := hb1.size; (try simp at oz1); have hb0 := HB.out; have hbx : Below w.heap.size w w1 := (by repeat (first | with_reducible exact Below.refl _ _ | with_reducible assumption | with_reducible refine Below.drew ?_ | with_reducible refine Below.drewN ?_ _ | with_reducible refine Below.alloc2 ?_ _ | with_reducible refine Below.alloc ?_ (by first | omega | (simp <;> omega)) _ | with_reducible refine Below.setCell ?_ (by first | omega | (simp <;> omega)) _ | with_reducible refine Below.step2 (by with_reducible assumption) ?_ | with_reducible refine Below.step (by with_reducible assumption) ?_ (by first | omega | (simp <;> omega)))); have y1 := HC.out _ hbx; have HBX := Lib.hid hbx; clear hb0 hbx))
                      go_quiet (fail)
                      go_wp2
                      go_ret
                      have hb0 := HBX.out
                      refine ⟨(by repeat (first | with_reducible exact Below.refl _ _ | with_reducible assumption | with_reducible refine Below.drew ?_ | with_reducible refine Below.drewN ?_ _ | with_reducible refine Below.alloc2 ?_ _ | with_reducible refine Below.alloc ?_ (by first | omega | (simp <;> omega)) _ | with_reducible refine Below.setCell ?_ (by first | omega | (simp <;> omega)) _ | with_reducible refine Below.step2 (by with_reducible assumption) ?_ | with_reducible refine Below.step (by with_reducible assumption) ?_ (by first | omega | (simp <;> omega)))), ret_int ?_⟩
                      rw [← HG.out, grFrom_order HX.out HV.out (by simp [ok3, E1.out, E2.out]) (okB_no (show ¬ xa < xb by omega))])
      · have HB := Lib.hid hb
        clear hb
        go_wp2
        go_ret
        have hb0 := HB.out
        refine ⟨(by repeat (first | with_reducible exact Below.refl _ _ | with_reducible assumption | with_reducible refine Below.drew ?_ | with_reducible refine Below.drewN ?_ _ | with_reducible refine Below.alloc2 ?_ _ | with_reducible refine Below.alloc ?_ (by first | omega | (simp <;> omega)) _ | with_reducible refine Below.setCell ?_ (by first | omega | (simp <;> omega)) _ | with_reducible refine Below.step2 (by with_reducible assumption) ?_ | with_reducible refine Below.step (by with_reducible assumption) ?_ (by first | omega | (simp <;> omega)))), ret_int ?_⟩
        rw [← HG.out, grFrom_end (by rw [HLEN.out]; omega) HV.out]

end Go.Proofs.YtgljncfijcamhaaGreatDoor
