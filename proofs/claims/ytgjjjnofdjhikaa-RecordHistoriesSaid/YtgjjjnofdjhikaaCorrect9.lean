/- Chapter 9, walks: short, sameRecord; Correct. -/
import Derived.Test.YtgjjjnofdjhikaaCopies9
namespace Go.Proofs.Ytgjjjnofdjhikaa
open Go.RowKit Go.WideShapes

def szB (x : Ev) : Bool := decide (x.p.size ≤ 30)
def shB (l : List Ev) : Bool := if l.length ≤ 60 then l.all szB else decide (400 < l.length ∧ l.length ≤ 405)
theorem shB_facts {l : List Ev} (h : shB l = true) : l.length ≤ 405 ∧ (l.length ≤ 400 → ∀ x ∈ l, x.p.size ≤ 30) := by
  unfold shB at h
  split at h
  · refine ⟨by omega, fun _ x hx => ?_⟩
    have := List.all_eq_true.1 h x hx
    unfold szB at this
    exact of_decide_eq_true this
  · have := of_decide_eq_true h
    exact ⟨this.2, fun h2 => absurd h2 (by omega)⟩
theorem all_left {l : List Ev} {k : Nat} {x : Ev} (hx : l[k]? = some x) (h : (l.drop k).all szB = l.all szB) : (szB x = false → l.all szB = false) ∧ (szB x = true → (l.drop (k + 1)).all szB = l.all szB) := by
  rw [drop_step hx, List.all_cons] at h
  exact ⟨fun e => by rw [e] at h; exact h.symm, fun e => by rw [e] at h; exact h⟩
set_option maxHeartbeats 2000000 in
theorem short_any (A : Option Addr) (n c B : Nat) (l : List Ev) (w : World) (h : Rws Ev.cs 6 w B A n c l) :
    Calls Try.prog 10 #[.slice A n c] w fun e w' => w = w' ∧ e = .returned (.bool (shB l)) := by
  have hcap := h.cap
  have hmax := h.max
  have HLEN := Lib.hid h.len
  by_cases h60 : n ≤ 60
  rotate_left
  · have d60 : decide ((n : Int) ≤ 60) = false := decide_eq_false (by omega)
    have g0 : 0 < n := by omega
    have g1 : decide (0 < n) = true := decide_eq_true g0
    have g2 : decide ((0 : Int) < (n : Int)) = true := decide_eq_true (by omega)
    by_cases h400 : 400 < n
    · have d400 : decide ((400 : Int) < (n : Int)) = true := decide_eq_true (by omega)
      by_cases h405 : n ≤ 405
      · have d405 : decide ((n : Int) ≤ 405) = true := decide_eq_true (by omega)
        have HR : Hid (shB l = true) := Lib.hid (by rw [shB, HLEN.out, if_neg h60]; exact decide_eq_true ⟨h400, h405⟩)
        clear h60 h400 h405
        (
              go_enter Try.func10, Try.ntmps10
              go_wp2
              go_loop [3] (fun i => i = .int .i64 0) (fun _ => 0)
              case atStart => rfl
              case round =>
                subst hrel
                go_wp2
                go_ret
                exact ⟨rfl, ret_bool (by rw [HR.out])⟩)
      · have d405 : decide ((n : Int) ≤ 405) = false := decide_eq_false (by omega)
        have HR : Hid (shB l = false) := Lib.hid (by rw [shB, HLEN.out, if_neg h60]; exact decide_eq_false fun h => h405 h.2)
        clear h60 h400 h405
        (
              go_enter Try.func10, Try.ntmps10
              go_wp2
              go_loop [3] (fun i => i = .int .i64 0) (fun _ => 0)
              case atStart => rfl
              case round =>
                subst hrel
                go_wp2
                go_ret
                exact ⟨rfl, ret_bool (by rw [HR.out])⟩)
    · have d400 : decide ((400 : Int) < (n : Int)) = false := decide_eq_false (by omega)
      have HR : Hid (shB l = false) := Lib.hid (by rw [shB, HLEN.out, if_neg h60]; exact decide_eq_false fun h => h400 h.1)
      clear h60 h400
      (
            go_enter Try.func10, Try.ntmps10
            go_wp2
            go_loop [3] (fun i => i = .int .i64 0) (fun _ => 0)
            case atStart => rfl
            case round =>
              subst hrel
              go_wp2
              go_ret
              exact ⟨rfl, ret_bool (by rw [HR.out])⟩)
  have d60 : decide ((n : Int) ≤ 60) = true := decide_eq_true (by omega)
  obtain ⟨R, hR⟩ : ∃ R, shB l = R := ⟨_, rfl⟩
  have HR : Hid (l.all szB = R) := Lib.hid (by rw [← hR, shB, HLEN.out, if_pos h60])
  rw [hR]
  clear hR
  go_enter Try.func10, Try.ntmps10
  go_wp2
  go_loop [3] (fun i => ∃ k : Nat, k ≤ n ∧ i = .int .i64 k ∧ Hid ((l.drop k).all szB = l.all szB)) (fun i => n - (intOf i).toNat)
  case atStart => exact ⟨0, Nat.zero_le _, rfl, Lib.hid rfl⟩
  case round =>
    obtain ⟨k, hk, rfl, HA⟩ := hrel
    by_cases hlt : k < n
    · obtain ⟨b, o, ⟨xd, xk, xp, xn, xs, xg⟩, rfl, hb, hx, c0, c1, c2, c3, c4, c5⟩ := h.ev hlt
      dsimp only at c0 c1 c2 c3 c4 c5
      have HT := Lib.hid (all_left hx HA.out)
      clear hx
      by_cases h30 : xp.size ≤ 30
      · go_wp2
        go_round
        case rel => exact ⟨k + 1, by omega, by go_num, Lib.hid (HT.out.2 (decide_eq_true h30))⟩
        case measure => simp [intOf]; omega
      · go_wp2
        go_ret
        exact ⟨rfl, ret_bool (by rw [← HR.out]; exact (HT.out.1 (decide_eq_false h30)).symm)⟩
    · go_wp2
      go_ret
      refine ⟨rfl, ret_bool ?_⟩
      have := HA.out
      rw [List.drop_eq_nil_of_le (by rw [HLEN.out]; omega)] at this
      rw [← HR.out, ← this]
      rfl
set_option maxRecDepth 100000 in
set_option maxHeartbeats 2000000 in
theorem sameRecord_eq (A A2 : Option Addr) (n c c2 : Nat) (l : List Ev) (w : World) (h : Rws Ev.cs 6 w w.heap.size A n c l) (h2 : Rws Ev.cs 6 w w.heap.size A2 n c2 l) :
    Calls Try.prog 18 #[.slice A n c, .slice A2 n c2] w fun e w' => Below w.heap.size w w' ∧ e = .returned (.bool true) := by
  have hcap := h.cap
  have hmax := h.max
  have hcap2 := h2.cap
  have hmax2 := h2.max
  have H : Hid (∀ w', Below w.heap.size w w' → Rws Ev.cs 6 w' w.heap.size A n c l) := fun w' hb => h.below hb (Nat.le_refl _) (Nat.le_refl _)
  have H2 : Hid (∀ w', Below w.heap.size w w' → Rws Ev.cs 6 w' w.heap.size A2 n c2 l) := fun w' hb => h2.below hb (Nat.le_refl _) (Nat.le_refl _)
  clear h h2
  go_enter Try.func18, Try.ntmps18
  go_wp2
  go_loopw [5] (fun i wr => ∃ k : Nat, k ≤ n ∧ i = .int .i64 k ∧ Below w.heap.size w wr) (fun i _ => n - (intOf i).toNat)
  case atStart => exact ⟨0, Nat.zero_le _, rfl, (by repeat (first | with_reducible exact Below.refl _ _ | with_reducible assumption | with_reducible refine Below.drew ?_ | with_reducible refine Below.drewN ?_ _ | with_reducible refine Below.alloc2 ?_ _ | with_reducible refine Below.alloc ?_ (by first | omega | (simp <;> omega)) _ | with_reducible refine Below.setCell ?_ (by first | omega | (simp <;> omega)) _ | with_reducible refine Below.step2 (by with_reducible assumption) ?_ | with_reducible refine Below.step (by with_reducible assumption) ?_ (by first | omega | (simp <;> omega))))⟩
  case round =>
    obtain ⟨k, hk, rfl, hb⟩ := hrel
    have HB := Lib.hid hb
    have ow := hb.size
    by_cases hlt : k < n
    · obtain ⟨b, o, ⟨xd, xk, xp, xn, xs, xg⟩, rfl, hbb, hx, c0, c1, c2, c3, c4, c5⟩ := (H.out _ hb).ev hlt
      obtain ⟨b2, o2, x2, rfl, hbb2, hx2, d0, d1, d2, d3, d4, d5⟩ := (H2.out _ hb).ev hlt
      obtain rfl : x2 = ⟨xd, xk, xp, xn, xs, xg⟩ := by rw [hx] at hx2; exact (Option.some.inj hx2).symm
      dsimp only at c0 c1 c2 c3 c4 c5 d0 d1 d2 d3 d4 d5
      have z1 : (0 : Int) ≤ (k : Int) := by omega
      have z2 : (k : Int) < (n : Int) := by omega
      clear hx hx2 hb
      go_wp2
      go_quiet (fail)
      go_wp2
      go_roundw
      case rel =>
        have hb0 := HB.out
        exact ⟨k + 1, by omega, by go_num, (by repeat (first | with_reducible exact Below.refl _ _ | with_reducible assumption | with_reducible refine Below.drew ?_ | with_reducible refine Below.drewN ?_ _ | with_reducible refine Below.alloc2 ?_ _ | with_reducible refine Below.alloc ?_ (by first | omega | (simp <;> omega)) _ | with_reducible refine Below.setCell ?_ (by first | omega | (simp <;> omega)) _ | with_reducible refine Below.step2 (by with_reducible assumption) ?_ | with_reducible refine Below.step (by with_reducible assumption) ?_ (by first | omega | (simp <;> omega))))⟩
      case measure => simp [intOf]; omega
    · go_wp2
      go_ret
      exact ⟨HB.out, rfl⟩
/-- CheckRecord of short records, or of too many events. -/
theorem checkRec_all (A : Option Addr) (n c : Nat) (l : List Ev) (w : World) (h : Rws Ev.cs 6 w w.heap.size A n c l) (hs : n ≤ 400 → ∀ x ∈ l, x.p.size ≤ 30) (ho : ∀ x ∈ l, evOk x) :
    Calls Try.prog 15 #[.slice A n c] w fun e w' => Below w.heap.size w w' ∧ e = .returned (.int .i64 (recErr l)) := by
  by_cases hbig : 400 < n
  · have hcap := h.cap
    have hmax := h.max
    have HR : Hid (recErr l = 8) := Lib.hid (by rw [recErr, h.len, if_pos hbig])
    clear h hs ho
    go_enter Try.func15, Try.ntmps15
    go_wp2
    go_ret
    exact ⟨(by repeat (first | with_reducible exact Below.refl _ _ | with_reducible assumption | with_reducible refine Below.drew ?_ | with_reducible refine Below.drewN ?_ _ | with_reducible refine Below.alloc2 ?_ _ | with_reducible refine Below.alloc ?_ (by first | omega | (simp <;> omega)) _ | with_reducible refine Below.setCell ?_ (by first | omega | (simp <;> omega)) _ | with_reducible refine Below.step2 (by with_reducible assumption) ?_ | with_reducible refine Below.step (by with_reducible assumption) ?_ (by first | omega | (simp <;> omega)))), ret_int HR.out.symm⟩
  · exact checkRecord_any A n c l w h (hs (by omega)) ho

end Go.Proofs.Ytgjjjnofdjhikaa
