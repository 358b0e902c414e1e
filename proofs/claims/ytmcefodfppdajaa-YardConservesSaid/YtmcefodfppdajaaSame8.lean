/- Chapter 8, walks: equal stocks, few entries; Normal of both sides with one word. -/
import Derived.Test.YtmcefodfppdajaaCnt8
namespace Go.Proofs.Ytmcefodfppdajaa
open Go.RowKit Go.Deep

set_option maxRecDepth 100000 in
set_option maxHeartbeats 8000000 in
theorem sameStock_eq (A A2 : Option Addr) (n c c2 : Nat) (l : List Q4) (w : World) (h : Rws Q4.cs 4 w w.heap.size A n c l) (h2 : Rws Q4.cs 4 w w.heap.size A2 n c2 l) :
    Calls Try.prog 20 #[.slice A n c, .slice A2 n c2] w fun e w' => Below w.heap.size w w' ∧ e = .returned (.bool true) := by
  have hcap := h.cap
  have hmax := h.max
  have hcap2 := h2.cap
  have hmax2 := h2.max
  have H : Hid (∀ w', Below w.heap.size w w' → Rws Q4.cs 4 w' w.heap.size A n c l) := fun w' hb => h.below hb (Nat.le_refl _) (Nat.le_refl _)
  have H2 : Hid (∀ w', Below w.heap.size w w' → Rws Q4.cs 4 w' w.heap.size A2 n c2 l) := fun w' hb => h2.below hb (Nat.le_refl _) (Nat.le_refl _)
  clear h h2
  go_enter Try.func20, Try.ntmps20
  go_wp2
  go_loopw [5] (fun i wr => ∃ k : Nat, k ≤ n ∧ i = .int .i64 k ∧ Below w.heap.size w wr) (fun i _ => n - (intOf i).toNat)
  case atStart => exact ⟨0, Nat.zero_le _, rfl, (by repeat (first | with_reducible exact Below.refl _ _ | with_reducible assumption | with_reducible refine Below.drew ?_ | with_reducible refine Below.drewN ?_ _ | with_reducible refine Below.alloc2 ?_ _ | with_reducible refine Below.alloc ?_ (by first | omega | (simp <;> omega)) _ | with_reducible refine Below.setCell ?_ (by first | omega | (simp <;> omega)) _ | with_reducible refine Below.step2 (by with_reducible assumption) ?_ | with_reducible refine Below.step (by with_reducible assumption) ?_ (by first | omega | (simp <;> omega))))⟩
  case round =>
    obtain ⟨k, hk, rfl, hb⟩ := hrel
    have HB := Lib.hid hb
    have ow := hb.size
    by_cases hlt : k < n
    · obtain ⟨b, o, ⟨xp, xn, xi, xd⟩, rfl, hbb, hx, c0, c1, c2, c3⟩ := (H.out _ hb).q4 hlt
      obtain ⟨b2, o2, x2, rfl, hbb2, hx2, d0, d1, d2, d3⟩ := (H2.out _ hb).q4 hlt
      obtain rfl : x2 = ⟨xp, xn, xi, xd⟩ := by rw [hx] at hx2; exact (Option.some.inj hx2).symm
      dsimp only at c0 c1 c2 c3 d0 d1 d2 d3
      have z1 : (0 : Int) ≤ (k : Int) := by omega
      have z2 : (k : Int) < (n : Int) := by omega
      clear hx hx2 hb
      go_wp2
      go_quiet (fail)
      go_wp2
      go_roundw
      case rel =>
        have hb0 := HB.out
        exact ⟨k + 1, by omega, by go_num, (by repeat (first | with_reducible exact Below.refl _ _ | with_reducible assumption | with_reducible refine Below.drew ?_ | with_reducible refine Below.drewN ?_ _ | with_reducible refine Below.alloc2 ?_ _ | with_reducible refine Below.alloc ?_ (by first | omega | (simp <;> omega)) _ | with_reducible refine Below.setCell ?_ (by first | omega | (simp <;> omega)) _ | with_reducible refine Below.step2 (by with_reducible assumption) ?_ | with_reducible refine Below.step (by with_reducible assumption) ?_ (by first | omega | (simp <;> omega))))⟩
      case measure => simp [intOf]; omega
    · go_wp2
      go_ret
      exact ⟨HB.out, rfl⟩
/-- Few entries, or too many, with short texts. -/
def shortB (l : List Q4) : Bool := decide ((l.length ≤ 12 ∨ 200 < l.length) ∧ l.length ≤ 220) && l.all fun x => decide (x.s.size ≤ 30)
theorem shortB_iff {l : List Q4} : shortB l = true ↔ ((l.length ≤ 12 ∨ 200 < l.length) ∧ l.length ≤ 220) ∧ ∀ x ∈ l, x.s.size ≤ 30 := by simp [shortB]
theorem shortB_no {l : List Q4} (h : ¬ ((l.length ≤ 12 ∨ 200 < l.length) ∧ l.length ≤ 220)) : shortB l = false := by
  rw [← Bool.not_eq_true, shortB_iff]
  exact fun ⟨h1, _⟩ => h h1
theorem shortB_long {l : List Q4} {x : Q4} (hx : x ∈ l) (h : ¬ x.s.size ≤ 30) : shortB l = false := by
  rw [← Bool.not_eq_true, shortB_iff]
  exact fun ⟨_, h1⟩ => h (h1 x hx)
set_option maxRecDepth 100000 in
set_option maxHeartbeats 8000000 in
theorem short_any (A : Option Addr) (n ca : Nat) (l : List Q4) (w : World) (h : Rws Q4.cs 4 w w.heap.size A n ca l) :
    Calls Try.prog 13 #[.slice A n ca] w fun e w' => Below w.heap.size w w' ∧ e = .returned (.bool (shortB l)) := by
  have hcap := h.cap
  have hmax := h.max
  have HLEN := Lib.hid h.len
  have H : Hid (∀ w', Below w.heap.size w w' → Rws Q4.cs 4 w' w.heap.size A n ca l) := fun w' hb => h.below hb (Nat.le_refl _) (Nat.le_refl _)
  obtain ⟨R, hR⟩ : ∃ R, shortB l = R := ⟨_, rfl⟩
  have HR := Lib.hid hR
  rw [hR]
  clear h hR
  by_cases h12 : 12 < n
  · by_cases h200 : n ≤ 200
    · have h12' : (12 : Int) < (n : Int) := by omega
      have h200' : (n : Int) ≤ 200 := by omega
      have HF : Hid (false = R) := Lib.hid (by rw [← HR.out]; exact (shortB_no (by rw [HLEN.out]; omega)).symm)
      go_enter Try.func13, Try.ntmps13
      go_wp2
      go_ret
      exact ⟨Below.refl _ _, ret_bool HF.out⟩
    · by_cases h220 : 220 < n
      · have h12' : (12 : Int) < (n : Int) := by omega
        have h200' : ¬ (n : Int) ≤ 200 := by omega
        have h220' : (220 : Int) < (n : Int) := by omega
        have HF : Hid (false = R) := Lib.hid (by rw [← HR.out]; exact (shortB_no (by rw [HLEN.out]; omega)).symm)
        go_enter Try.func13, Try.ntmps13
        go_wp2
        go_ret
        exact ⟨Below.refl _ _, ret_bool HF.out⟩
      · have h12' : (12 : Int) < (n : Int) := by omega
        have h200' : ¬ (n : Int) ≤ 200 := by omega
        have h220' : ¬ (220 : Int) < (n : Int) := by omega
        have HG : Hid ((l.length ≤ 12 ∨ 200 < l.length) ∧ l.length ≤ 220) := Lib.hid (by rw [HLEN.out]; omega)
        go_enter Try.func13, Try.ntmps13
        go_wp2
        go_loopw [3] (fun i wr => ∃ k : Nat, k ≤ n ∧ i = .int .i64 k ∧ Hid (∀ x ∈ l.take k, x.s.size ≤ 30) ∧ Hid (Below w.heap.size w wr)) (fun i _ => n - (intOf i).toNat)
        case atStart => exact ⟨0, Nat.zero_le _, rfl, Lib.hid (fun x hx => by simp at hx), Lib.hid (Below.refl _ _)⟩
        case round =>
          obtain ⟨k, hk, rfl, HA, HB⟩ := hrel
          have ow := HB.out.size
          by_cases hlt : k < n
          · obtain ⟨b, o, ⟨ys, ya, yb, yc⟩, rfl, hbb, hy, c0, c1, c2, c3⟩ := (H.out _ HB.out).q4 hlt
            dsimp only at c0 c1 c2 c3
            have HY := Lib.hid hy
            clear hy
            by_cases h30 : ys.size ≤ 30
            · have h30' : ¬ (30 : Int) < (ys.size : Int) := by omega
              have HA2 : Hid (∀ x ∈ l.take (k + 1), x.s.size ≤ 30) := Lib.hid (by
                rw [take_step HY.out]
                intro x hx
                rcases List.mem_append.1 hx with hx | hx
                · exact HA.out x hx
                · rw [List.mem_singleton.1 hx]; exact h30)
              go_wp2
              go_roundw
              case rel => exact ⟨k + 1, by omega, by go_num, HA2, HB⟩
              case measure => simp [intOf]; omega
            · have h30' : (30 : Int) < (ys.size : Int) := by omega
              have HF : Hid (false = R) := Lib.hid (by rw [← HR.out]; exact (shortB_long (List.mem_of_getElem? HY.out) h30).symm)
              go_wp2
              go_ret
              exact ⟨HB.out, ret_bool HF.out⟩
          · have hkl : l.take k = l := List.take_of_length_le (by rw [HLEN.out]; omega)
            rw [hkl] at HA
            go_wp2
            go_ret
            exact ⟨HB.out, ret_bool (by rw [← HR.out]; exact (shortB_iff.2 ⟨HG.out, HA.out⟩).symm)⟩
  · have h12' : ¬ (12 : Int) < (n : Int) := by omega
    have h220' : ¬ (220 : Int) < (n : Int) := by omega
    have HG : Hid ((l.length ≤ 12 ∨ 200 < l.length) ∧ l.length ≤ 220) := Lib.hid (by rw [HLEN.out]; omega)
    go_enter Try.func13, Try.ntmps13
    go_wp2
    go_loopw [3] (fun i wr => ∃ k : Nat, k ≤ n ∧ i = .int .i64 k ∧ Hid (∀ x ∈ l.take k, x.s.size ≤ 30) ∧ Hid (Below w.heap.size w wr)) (fun i _ => n - (intOf i).toNat)
    case atStart => exact ⟨0, Nat.zero_le _, rfl, Lib.hid (fun x hx => by simp at hx), Lib.hid (Below.refl _ _)⟩
    case round =>
      obtain ⟨k, hk, rfl, HA, HB⟩ := hrel
      have ow := HB.out.size
      by_cases hlt : k < n
      · obtain ⟨b, o, ⟨ys, ya, yb, yc⟩, rfl, hbb, hy, c0, c1, c2, c3⟩ := (H.out _ HB.out).q4 hlt
        dsimp only at c0 c1 c2 c3
        have HY := Lib.hid hy
        clear hy
        by_cases h30 : ys.size ≤ 30
        · have h30' : ¬ (30 : Int) < (ys.size : Int) := by omega
          have HA2 : Hid (∀ x ∈ l.take (k + 1), x.s.size ≤ 30) := Lib.hid (by
            rw [take_step HY.out]
            intro x hx
            rcases List.mem_append.1 hx with hx | hx
            · exact HA.out x hx
            · rw [List.mem_singleton.1 hx]; exact h30)
          go_wp2
          go_roundw
          case rel => exact ⟨k + 1, by omega, by go_num, HA2, HB⟩
          case measure => simp [intOf]; omega
        · have h30' : (30 : Int) < (ys.size : Int) := by omega
          have HF : Hid (false = R) := Lib.hid (by rw [← HR.out]; exact (shortB_long (List.mem_of_getElem? HY.out) h30).symm)
          go_wp2
          go_ret
          exact ⟨HB.out, ret_bool HF.out⟩
      · have hkl : l.take k = l := List.take_of_length_le (by rw [HLEN.out]; omega)
        rw [hkl] at HA
        go_wp2
        go_ret
        exact ⟨HB.out, ret_bool (by rw [← HR.out]; exact (shortB_iff.2 ⟨HG.out, HA.out⟩).symm)⟩

end Go.Proofs.Ytmcefodfppdajaa
