/- The walk of guess: the greatest limb whose product with two limbs is at most three limbs. -/
import Derived.Test.YtfnibkodccfocaaGreatSubTimes
import Derived.Test.YtfnibkodccfocaaGreatDiv32
namespace Go.Proofs.YtfnibkodccfocaaGreat
open Go.RowKit

theorem guess_gt {D R T v0 v1 u0 : Nat} (h : D * v1 + R = T) (h2 : R * 4294967296 + u0 < D * v0) : u0 + 4294967296 * T < D * (v0 + 4294967296 * v1) := by
  rw [Nat.mul_add, Nat.mul_left_comm]; omega
theorem guess_le {D R T v0 v1 u0 : Nat} (h : D * v1 + R = T) (h2 : D * v0 ≤ R * 4294967296 + u0) : D * (v0 + 4294967296 * v1) ≤ u0 + 4294967296 * T := by
  rw [Nat.mul_add, Nat.mul_left_comm]; omega
theorem guess_first {T v0 v1 u0 : Nat} (h0 : 0 < v1) (hu : u0 < 4294967296) : u0 + 4294967296 * T < (T / v1 + 1) * (v0 + 4294967296 * v1) := by
  have h1 : T < (T / v1 + 1) * v1 := by rw [Nat.add_mul, Nat.one_mul, Nat.mul_comm]; exact Nat.lt_mul_div_succ T h0
  rw [Nat.mul_add, Nat.mul_left_comm]
  omega

/-- What guess tells: the greatest limb q with q times v at most u (T: the upper two limbs of u). -/
def GuessR (u0 T v0 v1 : Nat) (w : World) (e : Ending) (w' : World) : Prop :=
  (∃ q : Nat, e = .returned (.int .u32 (q : Int)) ∧ q ≤ 4294967295 ∧ q * (v0 + 4294967296 * v1) ≤ u0 + 4294967296 * T ∧
    (q = 4294967295 ∨ u0 + 4294967296 * T < (q + 1) * (v0 + 4294967296 * v1))) ∧ ∃ k, w' = w.drewN k


set_option maxHeartbeats 2000000 in
theorem guess_lt (g gv off offv c d u0 u1 u2 v0 v1 : Nat) (w : World) (hu0 : u0 < 4294967296) (hu1 : u1 < 4294967296) (hu2 : u2 < v1) (hv0 : v0 < 4294967296) (hv1 : v1 < 4294967296)
    (c0 : w.cell? ⟨g, off, none⟩ = some (.int .u32 (u0 : Int))) (c1 : w.cell? ⟨g, off + 1, none⟩ = some (.int .u32 (u1 : Int))) (c2 : w.cell? ⟨g, off + 2, none⟩ = some (.int .u32 (u2 : Int)))
    (d0 : w.cell? ⟨gv, offv, none⟩ = some (.int .u32 (v0 : Int))) (d1 : w.cell? ⟨gv, offv + 1, none⟩ = some (.int .u32 (v1 : Int))) :
    Calls Tryz.prog 134 #[.slice (some ⟨g, off, none⟩) 3 c, .slice (some ⟨gv, offv, none⟩) 2 d] w (GuessR u0 (u2 * 4294967296 + u1) v0 v1 w) := by
  have h3 := or_u64 u2 u1 (by omega) hu1
  have h4 : decide (u2 < v1) = true := by simpa using hu2
  have h5 : ((v1 : Int) == 0) = false := by simp; omega
  have eT : (u2 : Int) * 4294967296 + (u1 : Int) = ((u2 * 4294967296 + u1 : Nat) : Int) := by simp
  rw [eT] at h3
  have hTb : u2 * 4294967296 + u1 < v1 * 4294967296 := by
    have : (u2 + 1) * 4294967296 ≤ v1 * 4294967296 := Nat.mul_le_mul_right _ hu2
    omega
  have hTc : u2 * 4294967296 + u1 ≤ 18446744073709551615 := by omega
  clear eT
  generalize u2 * 4294967296 + u1 = T at h3 hTb hTc
  have HM : Hid (T / v1 = 4294967295 ∨ u0 + 4294967296 * T < (T / v1 + 1) * (v0 + 4294967296 * v1)) := .inr (guess_first (by omega) hu0)
  have hQ : T / v1 ≤ 4294967295 := by
    have := Nat.div_lt_of_lt_mul (m := T) (n := v1) (k := 4294967296) hTb
    omega
  have HT : Hid (T / v1 * v1 + T % v1 = T) := by
    have := Nat.div_add_mod T v1
    rw [Nat.mul_comm] at this
    exact this
  have eq : (T : Int) / (v1 : Int) = ((T / v1 : Nat) : Int) := (Int.natCast_ediv _ _).symm
  have hRb : T % v1 ≤ 18446744073709551615 := by have := Nat.mod_lt T (y := v1) (by omega); omega
  generalize T / v1 = Q at HM hQ HT eq
  generalize T % v1 = ρ at HT hRb
  have e2 : (T : Int) - (Q : Int) * (v1 : Int) = (ρ : Int) := by have := HT.out; rw [← Int.natCast_mul]; omega
  obtain ⟨p1, p2⟩ := prod_int (x := Q) (y := v1) (by omega) hv1
  clear hTb
  go_enter Tryz.func134, Tryz.ntmps134
  go_wp2
  go_quiet (fail)
  go_wp2
  go_quiet (fail)
  go_wp2
  clear h3 eq e2 p1 p2 c1 c2 h4
  go_loopw [6, 7] (fun dv rv wr => ∃ D R : Nat, dv = .int .u64 (D : Int) ∧ rv = .int .u64 (R : Int) ∧ D ≤ 4294967295 ∧ R ≤ 18446744073709551615 ∧ Hid (D * v1 + R = T) ∧ Hid (D = 4294967295 ∨ u0 + 4294967296 * T < (D + 1) * (v0 + 4294967296 * v1)) ∧ ∃ q, wr = w.drewN q)
    (fun dv _ _ => (intOf dv).toNat)
  case atStart => exact ⟨_, _, rfl, rfl, hQ, hRb, HT.out, HM, _, rfl⟩
  case round =>
    clear hRb
    obtain ⟨D, R, rfl, rfl, hD, hR, hDT, hmax, q, rfl⟩ := hrel
    by_cases hRB : R < 4294967296
    · have g1 : decide ((R : Int) < 4294967296) = true := by simp; omega
      have g2 := or_u64 R u0 hRB hu0
      obtain ⟨g3, g4⟩ := prod_int (x := D) (y := v0) (by omega) hv0
      by_cases hgt : R * 4294967296 + u0 < D * v0
      · obtain ⟨E, rfl⟩ : ∃ E, D = E + 1 := by
          rcases Nat.eq_zero_or_pos D with h | h
          · subst h; rw [Nat.zero_mul] at hgt; omega
          · exact ⟨D - 1, by omega⟩
        have g5 : (R : Int) * 4294967296 + (u0 : Int) < ((E + 1 : Nat) : Int) * (v0 : Int) := by rw [← Int.natCast_mul]; omega
        have hgt' := Lib.hid hgt
        clear hgt
        rw [show ((E + 1 : Nat) : Int) = (E : Int) + 1 from by omega] at g3 g4 g5
        go_wp2
        go_quiet (fail)
        go_wp2
        go_roundw
        case rel =>
          refine ⟨E, R + v1, by go_num, by go_num, by omega, by omega, ?_, .inr (guess_gt hDT.out hgt'.out), _, rfl⟩
          show E * v1 + (R + v1) = T
          have := hDT.out
          rw [Nat.add_mul, Nat.one_mul] at this
          omega
        case measure => simp [intOf]
      · have g5 : ¬ (R : Int) * 4294967296 + (u0 : Int) < (D : Int) * (v0 : Int) := by rw [← Int.natCast_mul]; omega
        have g6 : decide ((R : Int) * 4294967296 + (u0 : Int) < (D : Int) * (v0 : Int)) = false := by simpa using g5
        have hgt' := Lib.hid hgt
        clear hgt
        go_wp2
        go_quiet (fail)
        go_wp2
        go_ret
        exact ⟨⟨D, ret_int (by omega), hD, guess_le hDT.out (Nat.le_of_not_lt hgt'.out), hmax⟩, _, rfl⟩
    · have g1 : decide ((R : Int) < 4294967296) = false := by simp; omega
      have hle : Hid (D * v0 ≤ R * 4294967296 + u0) := by
        have := mul_le_two (x := D) (y := v0) (by omega) hv0
        show _ ≤ _
        omega
      go_wp2
      go_quiet (fail)
      go_wp2
      go_ret
      exact ⟨⟨D, ret_int (by omega), hD, guess_le hDT.out hle.out, hmax⟩, _, rfl⟩

set_option maxHeartbeats 2000000 in
theorem guess_eq (g gv off offv c d u0 u1 v0 v1 : Nat) (w : World) (hu0 : u0 < 4294967296) (hu1 : u1 < 4294967296) (hv0 : v0 < 4294967296) (hv1 : v1 < 4294967296)
    (c0 : w.cell? ⟨g, off, none⟩ = some (.int .u32 (u0 : Int))) (c1 : w.cell? ⟨g, off + 1, none⟩ = some (.int .u32 (u1 : Int))) (c2 : w.cell? ⟨g, off + 2, none⟩ = some (.int .u32 (v1 : Int)))
    (d0 : w.cell? ⟨gv, offv, none⟩ = some (.int .u32 (v0 : Int))) (d1 : w.cell? ⟨gv, offv + 1, none⟩ = some (.int .u32 (v1 : Int))) :
    Calls Tryz.prog 134 #[.slice (some ⟨g, off, none⟩) 3 c, .slice (some ⟨gv, offv, none⟩) 2 d] w (GuessR u0 (v1 * 4294967296 + u1) v0 v1 w) := by
  have h3 := or_u64 v1 u1 (by omega) hu1
  have h4 : decide (v1 < v1) = false := by simp
  have eT : (v1 : Int) * 4294967296 + (u1 : Int) = ((v1 * 4294967296 + u1 : Nat) : Int) := by simp
  rw [eT] at h3
  have hTc : v1 * 4294967296 + u1 ≤ 18446744073709551615 := by omega
  have HT : Hid (4294967295 * v1 + (u1 + v1) = v1 * 4294967296 + u1) := by show _ = _; omega
  clear eT
  generalize v1 * 4294967296 + u1 = T at h3 hTc HT
  have hRb : u1 + v1 ≤ 18446744073709551615 := by omega
  have e2 : (T : Int) - 4294967295 * (v1 : Int) = ((u1 + v1 : Nat) : Int) := by have := HT.out; omega
  generalize u1 + v1 = ρ at HT hRb e2
  go_enter Tryz.func134, Tryz.ntmps134
  go_wp2
  go_quiet (fail)
  go_wp2
  go_quiet (fail)
  go_wp2
  clear h3 e2 c1 c2 h4
  go_loopw [6, 7] (fun dv rv wr => ∃ D R : Nat, dv = .int .u64 (D : Int) ∧ rv = .int .u64 (R : Int) ∧ D ≤ 4294967295 ∧ R ≤ 18446744073709551615 ∧ Hid (D * v1 + R = T) ∧ Hid (D = 4294967295 ∨ u0 + 4294967296 * T < (D + 1) * (v0 + 4294967296 * v1)) ∧ ∃ q, wr = w.drewN q)
    (fun dv _ _ => (intOf dv).toNat)
  case atStart => exact ⟨4294967295, ρ, rfl, rfl, Nat.le_refl _, hRb, HT.out, .inl rfl, _, rfl⟩
  case round =>
    clear hRb
    obtain ⟨D, R, rfl, rfl, hD, hR, hDT, hmax, q, rfl⟩ := hrel
    by_cases hRB : R < 4294967296
    · have g1 : decide ((R : Int) < 4294967296) = true := by simp; omega
      have g2 := or_u64 R u0 hRB hu0
      obtain ⟨g3, g4⟩ := prod_int (x := D) (y := v0) (by omega) hv0
      by_cases hgt : R * 4294967296 + u0 < D * v0
      · obtain ⟨E, rfl⟩ : ∃ E, D = E + 1 := by
          rcases Nat.eq_zero_or_pos D with h | h
          · subst h; rw [Nat.zero_mul] at hgt; omega
          · exact ⟨D - 1, by omega⟩
        have g5 : (R : Int) * 4294967296 + (u0 : Int) < ((E + 1 : Nat) : Int) * (v0 : Int) := by rw [← Int.natCast_mul]; omega
        have hgt' := Lib.hid hgt
        clear hgt
        rw [show ((E + 1 : Nat) : Int) = (E : Int) + 1 from by omega] at g3 g4 g5
        go_wp2
        go_quiet (fail)
        go_wp2
        go_roundw
        case rel =>
          refine ⟨E, R + v1, by go_num, by go_num, by omega, by omega, ?_, .inr (guess_gt hDT.out hgt'.out), _, rfl⟩
          show E * v1 + (R + v1) = T
          have := hDT.out
          rw [Nat.add_mul, Nat.one_mul] at this
          omega
        case measure => simp [intOf]
      · have g5 : ¬ (R : Int) * 4294967296 + (u0 : Int) < (D : Int) * (v0 : Int) := by rw [← Int.natCast_mul]; omega
        have g6 : decide ((R : Int) * 4294967296 + (u0 : Int) < (D : Int) * (v0 : Int)) = false := by simpa using g5
        have hgt' := Lib.hid hgt
        clear hgt
        go_wp2
        go_quiet (fail)
        go_wp2
        go_ret
        exact ⟨⟨D, ret_int (by omega), hD, guess_le hDT.out (Nat.le_of_not_lt hgt'.out), hmax⟩, _, rfl⟩
    · have g1 : decide ((R : Int) < 4294967296) = false := by simp; omega
      have hle : Hid (D * v0 ≤ R * 4294967296 + u0) := by
        have := mul_le_two (x := D) (y := v0) (by omega) hv0
        show _ ≤ _
        omega
      go_wp2
      go_quiet (fail)
      go_wp2
      go_ret
      exact ⟨⟨D, ret_int (by omega), hD, guess_le hDT.out hle.out, hmax⟩, _, rfl⟩

end Go.Proofs.YtfnibkodccfocaaGreat
