/- Chapter 9, walks: sums of charges and their errors, on both sides. -/
import Derived.Test.YtbeijeblbchglaaBase9
import Derived.Test.YtbeijeblbchglaaKinds9
namespace Go.Proofs.Ytbeijeblbchglaa
open Go.RowKit

def sumC (l : List Q4) : Int := (l.map (·.c)).sum
theorem sumC_take {l : List Q4} {k : Nat} {x : Q4} (h : l[k]? = some x) : sumC (l.take (k + 1)) = sumC (l.take k) + x.c := by
  rw [take_step h]
  simp [sumC]
def amtB (x : Q4) : Bool := inR 0 1000000000000000 x.c
theorem sumC_bd : ∀ (l : List Q4), l.all amtB = true → 0 ≤ sumC l ∧ sumC l ≤ 1000000000000000 * (l.length : Int)
  | [], _ => by simp [sumC]
  | x :: l, h => by
    simp only [List.all_cons, Bool.and_eq_true] at h
    have := sumC_bd l h.2
    have hx := inR_iff.1 h.1
    simp only [sumC, List.map_cons, List.sum_cons, List.length_cons] at this ⊢
    omega
theorem sumC_tbd {l : List Q4} (h : l.all amtB = true) (k : Nat) (hn : l.length ≤ 2000) : 0 ≤ sumC (l.take k) ∧ sumC (l.take k) ≤ 2000000000000000000 := by
  have h1 : (l.take k).all amtB = true := List.all_eq_true.2 fun x hx => List.all_eq_true.1 h x (List.mem_of_mem_take hx)
  have := sumC_bd _ h1
  have h2 : (l.take k).length ≤ 2000 := by rw [List.length_take]; omega
  omega
set_option maxHeartbeats 2000000 in
theorem sumOf_any (A : Option Addr) (n c : Nat) (l : List Q4) (w : World) (h : Rws Q4.cs 4 w w.heap.size A n c l) (hb : l.all amtB = true) (hn : n ≤ 2000) :
    Calls Try.prog 69 #[.slice A n c] w fun e w' => Below w.heap.size w w' ∧ e = .returned (.int .i64 (sumC l)) := by
  have hcap := h.cap
  have hmax := h.max
  have HLEN := Lib.hid h.len
  have HBD : Hid (∀ k, 0 ≤ sumC (l.take k) ∧ sumC (l.take k) ≤ 2000000000000000000) := Lib.hid fun k => sumC_tbd hb k (by rw [h.len]; exact hn)
  have H : Hid (∀ w', Below w.heap.size w w' → Rws Q4.cs 4 w' w.heap.size A n c l) := fun w' hb => h.below hb (Nat.le_refl _) (Nat.le_refl _)
  clear h hb
  go_enter Try.func69, Try.ntmps69
  go_wp2
  go_loopw [3, 5, 8] (fun s _ i wr => ∃ k : Nat, k ≤ n ∧ i = .int .i64 k ∧ (∃ S, s = .int .i64 S ∧ Hid (sumC (l.take k) = S)) ∧ Below w.heap.size w wr) (fun _ _ i _ => n - (intOf i).toNat)
  case atStart => exact ⟨0, Nat.zero_le _, rfl, ⟨0, rfl, Lib.hid (by simp [sumC])⟩, (by repeat (first | with_reducible exact Below.refl _ _ | with_reducible assumption | with_reducible refine Below.drew ?_ | with_reducible refine Below.drewN ?_ _ | with_reducible refine Below.alloc2 ?_ _ | with_reducible refine Below.alloc ?_ (by first | omega | (simp <;> omega)) _ | with_reducible refine Below.setCell ?_ (by first | omega | (simp <;> omega)) _ | with_reducible refine Below.step2 (by with_reducible assumption) ?_ | with_reducible refine Below.step (by with_reducible assumption) ?_ (by first | omega | (simp <;> omega))))⟩
  case round =>
    obtain ⟨k, hk, rfl, ⟨S, rfl, HS⟩, hb⟩ := hrel
    have HB := Lib.hid hb
    have ow := hb.size
    by_cases hlt : k < n
    · obtain ⟨b, o, ⟨xs, xa, xb, xc⟩, rfl, hbb, hx, c0, c1, c2, c3⟩ := (H.out _ hb).q4 hlt
      dsimp only at c0 c1 c2 c3
      have HT := Lib.hid (sumC_take hx)
      have f1 := HBD.out k
      have f2 := HBD.out (k + 1)
      rw [HT.out, HS.out] at f2
      rw [HS.out] at f1
      dsimp only at f2
      clear hx hb
      go_wp2
      go_roundw
      case rel =>
        have hb0 := HB.out
        exact ⟨k + 1, by omega, by go_num, ⟨S + xc, by go_num, Lib.hid (by rw [HT.out, HS.out])⟩, (by repeat (first | with_reducible exact Below.refl _ _ | with_reducible assumption | with_reducible refine Below.drew ?_ | with_reducible refine Below.drewN ?_ _ | with_reducible refine Below.alloc2 ?_ _ | with_reducible refine Below.alloc ?_ (by first | omega | (simp <;> omega)) _ | with_reducible refine Below.setCell ?_ (by first | omega | (simp <;> omega)) _ | with_reducible refine Below.step2 (by with_reducible assumption) ?_ | with_reducible refine Below.step (by with_reducible assumption) ?_ (by first | omega | (simp <;> omega))))⟩
      case measure => simp [intOf]; omega
    · go_wp2
      go_ret
      refine ⟨HB.out, ret_int ?_⟩
      rw [← HS.out, List.take_of_length_le (by rw [HLEN.out]; omega)]
set_option maxHeartbeats 2000000 in
theorem refTotal_any (A : Option Addr) (n c B : Nat) (l : List Q4) (w : World) (h : Rws Q4.cs 4 w B A n c l) (hb : l.all amtB = true) (hn : n ≤ 2000) :
    Calls Try.prog 42 #[.slice A n c] w fun e w' => w = w' ∧ e = .returned (.int .i64 (sumC l)) := by
  have hcap := h.cap
  have hmax := h.max
  have HLEN := Lib.hid h.len
  have HBD : Hid (∀ k, 0 ≤ sumC (l.take k) ∧ sumC (l.take k) ≤ 2000000000000000000) := Lib.hid fun k => sumC_tbd hb k (by rw [h.len]; exact hn)
  clear hb
  go_enter Try.func42, Try.ntmps42
  go_wp2
  go_loop [3, 4] (fun s i => ∃ k : Nat, k ≤ n ∧ i = .int .i64 k ∧ (∃ S, s = .int .i64 S ∧ Hid (sumC (l.take k) = S))) (fun _ i => n - (intOf i).toNat)
  case atStart => exact ⟨0, Nat.zero_le _, rfl, ⟨0, rfl, Lib.hid (by simp [sumC])⟩⟩
  case round =>
    obtain ⟨k, hk, rfl, S, rfl, HS⟩ := hrel
    by_cases hlt : k < n
    · obtain ⟨b, o, ⟨xs, xa, xb, xc⟩, rfl, hbb, hx, c0, c1, c2, c3⟩ := h.q4 hlt
      dsimp only at c0 c1 c2 c3
      have HT := Lib.hid (sumC_take hx)
      have f1 := HBD.out k
      have f2 := HBD.out (k + 1)
      rw [HT.out, HS.out] at f2
      rw [HS.out] at f1
      dsimp only at f2
      clear hx
      go_wp2
      go_round
      case rel => exact ⟨k + 1, by omega, by go_num, ⟨S + xc, by go_num, Lib.hid (by rw [HT.out, HS.out])⟩⟩
      case measure => simp [intOf]; omega
    · go_wp2
      go_ret
      refine ⟨rfl, ret_int ?_⟩
      rw [← HS.out, List.take_of_length_le (by rw [HLEN.out]; omega)]

/-- The error of charges. -/
def totErr (l : List Q4) : Int := if 2000 < l.length then 8 else if l.all amtB then 0 else 2
theorem all_drop {l : List Q4} {k : Nat} {x : Q4} (hx : l[k]? = some x) (h : (l.drop k).all amtB = l.all amtB) : (amtB x = false → l.all amtB = false) ∧ (amtB x = true → (l.drop (k + 1)).all amtB = l.all amtB) := by
  rw [drop_step hx, List.all_cons] at h
  exact ⟨fun e => by rw [e] at h; exact h.symm, fun e => by rw [e] at h; exact h⟩
set_option maxHeartbeats 2000000 in
theorem refCheckTotal_any (A : Option Addr) (n c B : Nat) (l : List Q4) (w : World) (h : Rws Q4.cs 4 w B A n c l) :
    Calls Try.prog 41 #[.slice A n c] w fun e w' => w = w' ∧ e = .returned (.int .i64 (totErr l)) := by
  have hcap := h.cap
  have hmax := h.max
  have HLEN := Lib.hid h.len
  obtain ⟨R, hR⟩ : ∃ R, totErr l = R := ⟨_, rfl⟩
  have HR := Lib.hid hR
  rw [hR]
  clear hR
  by_cases hbig : 2000 < n
  · go_enter Try.func41, Try.ntmps41
    go_wp2
    go_ret
    refine ⟨rfl, ret_int ?_⟩
    rw [← HR.out, totErr, HLEN.out, if_pos hbig]
  have HR2 : Hid ((if l.all amtB then 0 else 2) = R) := Lib.hid (by rw [← HR.out, totErr, HLEN.out, if_neg hbig])
  go_enter Try.func41, Try.ntmps41
  go_wp2
  go_loop [3] (fun i => ∃ k : Nat, k ≤ n ∧ i = .int .i64 k ∧ Hid ((l.drop k).all amtB = l.all amtB)) (fun i => n - (intOf i).toNat)
  case atStart => exact ⟨0, Nat.zero_le _, rfl, Lib.hid rfl⟩
  case round =>
    obtain ⟨k, hk, rfl, HA⟩ := hrel
    by_cases hlt : k < n
    · obtain ⟨b, o, ⟨xs, xa, xb, xc⟩, rfl, hbb, hx, c0, c1, c2, c3⟩ := h.q4 hlt
      dsimp only at c0 c1 c2 c3
      have HT := Lib.hid (all_drop hx HA.out)
      obtain ⟨v, hv⟩ : ∃ v, inR 0 1000000000000000 xc = v := ⟨_, rfl⟩
      have HV := Lib.hid hv
      clear hx hv
      cases v
      · go_wp2_with (go_at_call 16; with_reducible refine (within_b HV.out _).mono ?_; rintro e w' ⟨rfl, rfl⟩)
        go_ret
        refine ⟨rfl, ret_int ?_⟩
        rw [← HR2.out, HT.out.1 HV.out]
        rfl
      · go_wp2_with (go_at_call 16; with_reducible refine (within_b HV.out _).mono ?_; rintro e w' ⟨rfl, rfl⟩)
        go_round
        case rel => exact ⟨k + 1, by omega, by go_num, Lib.hid (HT.out.2 HV.out)⟩
        case measure => simp [intOf]; omega
    · go_wp2
      go_ret
      refine ⟨rfl, ret_int ?_⟩
      have := HA.out
      rw [List.drop_eq_nil_of_le (by rw [HLEN.out]; omega)] at this
      rw [← HR2.out, ← this]
      rfl
set_option maxHeartbeats 2000000 in
theorem total_any (A : Option Addr) (n c : Nat) (l : List Q4) (w : World) (h : Rws Q4.cs 4 w w.heap.size A n c l) :
    Calls Try.prog 40 #[.slice A n c] w fun e w' => Below w.heap.size w w' ∧ e = .returned (.tuple #[.int .i64 (if totErr l = 0 then sumC l else 0), .int .i64 (totErr l)]) := by
  have hcap := h.cap
  have hmax := h.max
  have HLEN := Lib.hid h.len
  have H : Hid (∀ w', Below w.heap.size w w' → Rws Q4.cs 4 w' w'.heap.size A n c l) := fun w' hb => h.below hb (Nat.le_refl _) hb.size
  obtain ⟨R, hR⟩ : ∃ R, totErr l = R := ⟨_, rfl⟩
  have HR := Lib.hid hR
  rw [hR]
  clear hR h
  by_cases hbig : 2000 < n
  · obtain rfl : R = 8 := by rw [← HR.out, totErr, HLEN.out, if_pos hbig]
    go_enter Try.func40, Try.ntmps40
    go_wp2
    go_ret2
    exact ⟨(by repeat (first | with_reducible exact Below.refl _ _ | with_reducible assumption | with_reducible refine Below.drew ?_ | with_reducible refine Below.drewN ?_ _ | with_reducible refine Below.alloc2 ?_ _ | with_reducible refine Below.alloc ?_ (by first | omega | (simp <;> omega)) _ | with_reducible refine Below.setCell ?_ (by first | omega | (simp <;> omega)) _ | with_reducible refine Below.step2 (by with_reducible assumption) ?_ | with_reducible refine Below.step (by with_reducible assumption) ?_ (by first | omega | (simp <;> omega)))), rfl⟩
  have HR2 : Hid ((if l.all amtB then 0 else 2) = R) := Lib.hid (by rw [← HR.out, totErr, HLEN.out, if_neg hbig])
  go_enter Try.func40, Try.ntmps40
  go_wp2
  go_loopw [5, 11] (fun _ i wr => ∃ k : Nat, k ≤ n ∧ i = .int .i64 k ∧ Hid ((l.drop k).all amtB = l.all amtB) ∧ Below w.heap.size w wr) (fun _ i _ => n - (intOf i).toNat)
  case atStart => exact ⟨0, Nat.zero_le _, rfl, Lib.hid rfl, (by repeat (first | with_reducible exact Below.refl _ _ | with_reducible assumption | with_reducible refine Below.drew ?_ | with_reducible refine Below.drewN ?_ _ | with_reducible refine Below.alloc2 ?_ _ | with_reducible refine Below.alloc ?_ (by first | omega | (simp <;> omega)) _ | with_reducible refine Below.setCell ?_ (by first | omega | (simp <;> omega)) _ | with_reducible refine Below.step2 (by with_reducible assumption) ?_ | with_reducible refine Below.step (by with_reducible assumption) ?_ (by first | omega | (simp <;> omega))))⟩
  case round =>
    obtain ⟨k, hk, rfl, HA, hb⟩ := hrel
    have HB := Lib.hid hb
    have ow := hb.size
    by_cases hlt : k < n
    · obtain ⟨b, o, ⟨xs, xa, xb, xc⟩, rfl, hbb, hx, c0, c1, c2, c3⟩ := (H.out _ hb).q4 hlt
      dsimp only at c0 c1 c2 c3
      have HT := Lib.hid (all_drop hx HA.out)
      obtain ⟨v, hv⟩ : ∃ v, inR 0 1000000000000000 xc = v := ⟨_, rfl⟩
      have HV := Lib.hid hv
      clear hx hv hb
      cases v
      · obtain rfl : R = 2 := by rw [← HR2.out, HT.out.1 HV.out]; rfl
        go_wp2_with (go_at_call 49; with_reducible refine (areFrom_one 0 1000000000000000 xc _ _ ?_ _ HV.out).mono ?_; (focus (simp; done)); rintro e w' ⟨rfl, rfl⟩)
        go_ret2
        have hb0 := HB.out
        exact ⟨(by repeat (first | with_reducible exact Below.refl _ _ | with_reducible assumption | with_reducible refine Below.drew ?_ | with_reducible refine Below.drewN ?_ _ | with_reducible refine Below.alloc2 ?_ _ | with_reducible refine Below.alloc ?_ (by first | omega | (simp <;> omega)) _ | with_reducible refine Below.setCell ?_ (by first | omega | (simp <;> omega)) _ | with_reducible refine Below.step2 (by with_reducible assumption) ?_ | with_reducible refine Below.step (by with_reducible assumption) ?_ (by first | omega | (simp <;> omega)))), rfl⟩
      · go_wp2_with (go_at_call 49; with_reducible refine (areFrom_one 0 1000000000000000 xc _ _ ?_ _ HV.out).mono ?_; (focus (simp; done)); rintro e w' ⟨rfl, rfl⟩)
        go_roundw
        case rel =>
          have hb0 := HB.out
          exact ⟨k + 1, by omega, by go_num, Lib.hid (HT.out.2 HV.out), (by repeat (first | with_reducible exact Below.refl _ _ | with_reducible assumption | with_reducible refine Below.drew ?_ | with_reducible refine Below.drewN ?_ _ | with_reducible refine Below.alloc2 ?_ _ | with_reducible refine Below.alloc ?_ (by first | omega | (simp <;> omega)) _ | with_reducible refine Below.setCell ?_ (by first | omega | (simp <;> omega)) _ | with_reducible refine Below.step2 (by with_reducible assumption) ?_ | with_reducible refine Below.step (by with_reducible assumption) ?_ (by first | omega | (simp <;> omega))))⟩
        case measure => simp [intOf]; omega
    · have HALL : Hid (l.all amtB = true) := Lib.hid (by
        have := HA.out
        rw [List.drop_eq_nil_of_le (by rw [HLEN.out]; omega)] at this
        exact this.symm)
      obtain rfl : R = 0 := by rw [← HR2.out, HALL.out]; rfl
      go_wp2_with (go_at_call 69; with_reducible refine (sumOf_any A n c l _ (H.out _ HB.out) HALL.out (by omega)).mono ?_; rintro e w1 ⟨hb1, rfl⟩)
      go_ret2
      have hb0 := HB.out
      exact ⟨(by repeat (first | with_reducible exact Below.refl _ _ | with_reducible assumption | with_reducible refine Below.drew ?_ | with_reducible refine Below.drewN ?_ _ | with_reducible refine Below.alloc2 ?_ _ | with_reducible refine Below.alloc ?_ (by first | omega | (simp <;> omega)) _ | with_reducible refine Below.setCell ?_ (by first | omega | (simp <;> omega)) _ | with_reducible refine Below.step2 (by with_reducible assumption) ?_ | with_reducible refine Below.step (by with_reducible assumption) ?_ (by first | omega | (simp <;> omega)))), rfl⟩

end Go.Proofs.Ytbeijeblbchglaa
