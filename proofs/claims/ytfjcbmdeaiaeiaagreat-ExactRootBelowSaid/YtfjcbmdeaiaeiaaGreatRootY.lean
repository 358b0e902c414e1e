/- ExactRootBelow: RootBelow of the program returns what the reference returns, which is the greatest fraction with the denominator whose square is at most the number, or the error: the statement holds for every input, with no condition. -/
import Derived.Test.YtfjcbmdeaiaeiaaGreatRootH
import Derived.Test.YtfjcbmdeaiaeiaaGreatFracE
import Derived.Test.YtfjcbmdeaiaeiaaGreatRefF
import Derived.Test.YtfjcbmdeaiaeiaaGreatAwake1
/- Roots, the program: RootBelow. -/
namespace Go.Proofs.YtfjcbmdeaiaeiaaGreat
open Go.RowKit

theorem wrap_u64 {z : Int} (h0 : 0 ≤ z) (h1 : z < 18446744073709551616) : IntKind.u64.wrap z = z := by
  unfold IntKind.wrap
  simp [IntKind.bits, IntKind.signed]
  omega
theorem W_2b : W 2 = 18446744073709551616 := by decide
theorem ofBH (z : Int) (w : World) (h1 : -9223372036854775808 ≤ z) (h2 : z ≤ 9223372036854775807) : Calls Tryz.prog 13 #[.int .i64 z] w (MakesInt z 2 w) :=
  (of_any z w h1 h2).mono fun _ _ h => makes_of h (by rw [W_2b]; omega)
set_option maxRecDepth 100000 in
set_option maxHeartbeats 800000 in
theorem rootBelow_ok (a d : Nat) (w : World) (ha : a < 9223372036854775808) (hd0 : 1 ≤ d) (hd1 : d ≤ 1000000) :
    Calls Tryz.prog 47 #[.int .i64 (a : Int), .int .i64 (d : Int)] w fun e w' => Below w.heap.size w w' ∧ ∃ k, IsRoot (a * (d * d)) k ∧ k < 4503599627370496 ∧ ∃ s1 A1 n1 c1 s2 A2 n2 c2, e = .returned (.tuple #[.agg #[.bool s1, .slice A1 n1 c1, .bool s2, .slice A2 n2 c2], .int .i64 0]) ∧ RatH w' s1 A1 n1 c1 s2 A2 n2 c2 (Rat.divInt k d) 4 true := by
  have hdd : d * d ≤ 1000000 * 1000000 := Nat.mul_le_mul hd1 hd1
  have hN1 : a * (d * d) < 4503599627370496 * 4503599627370496 := by
    have h := Nat.mul_le_mul (Nat.le_of_lt ha) hdd
    omega
  have ML : Hid (∀ W, Calls Tryz.prog 79 #[.int .u64 (a : Int), .int .u64 ((d * d : Nat) : Int)] W fun e w' => e = .returned (.tuple #[.int .u64 ((a * (d * d) / 18446744073709551616 : Nat) : Int), .int .u64 ((a * (d * d) % 18446744073709551616 : Nat) : Int)]) ∧ w' = W) := Lib.hid fun W => Tryz.bits_Mul64 a (d * d) (by omega) (by omega) W
  have SQ : Hid (∀ (k : Nat) W, k < 18446744073709551616 → Calls Tryz.prog 80 #[.int .u64 (k : Int), .int .u64 ((a * (d * d) / 18446744073709551616 : Nat) : Int), .int .u64 ((a * (d * d) % 18446744073709551616 : Nat) : Int)] W fun e w' => W = w' ∧ e = .returned (.bool (decide (k * k ≤ a * (d * d))))) := Lib.hid fun k W hk => squareFits_any k (a * (d * d)) hk _ rfl W
  have hc1 : IntKind.u64.wrap (a : Int) = (a : Int) := wrap_u64 (by omega) (by omega)
  have hc2 : IntKind.u64.wrap (d : Int) = (d : Int) := wrap_u64 (by omega) (by omega)
  have hc4 : (d : Int) * (d : Int) = ((d * d : Nat) : Int) := by simp
  have hc3 : IntKind.u64.wrap ((d : Int) * (d : Int)) = ((d * d : Nat) : Int) := by rw [hc4]; exact wrap_u64 (by omega) (by omega)
  clear hc4
  have ST := Lib.hid (Srch.start hN1)
  obtain ⟨N, hN⟩ : ∃ N, a * (d * d) = N := ⟨_, rfl⟩
  rw [hN] at ML SQ ST ⊢
  obtain ⟨D, hD⟩ : ∃ D, d * d = D := ⟨_, rfl⟩
  rw [hD] at ML hc3
  generalize N / 18446744073709551616 = H at ML SQ
  generalize N % 18446744073709551616 = L at ML SQ
  have z1 : decide ((a : Int) < 0) = false := decide_eq_false (by omega)
  have z2 : decide ((d : Int) < 1) = false := decide_eq_false (by omega)
  have z3 : decide ((d : Int) > 1000000) = false := decide_eq_false (by omega)
  clear hN1 hdd hN hD
  go_enter Tryz.func47, Tryz.ntmps47
  go_wp2_with (go_at_call 79; refine (ML.out _).mono ?_; rintro e w' ⟨rfl, rfl⟩)
  go_loop [8, 9] (fun kv bv => ∃ (j k b : Nat), j ≤ 52 ∧ Hid (2 ^ j / 2 = b) ∧ bv = .int .u64 (b : Int) ∧ kv = .int .u64 (k : Int) ∧ Hid (Srch N j k)) (fun _ bv => (intOf bv).toNat)
  case atStart => exact ⟨52, 0, 2251799813685248, Nat.le_refl _, Lib.hid (by decide), rfl, rfl, ST⟩
  case round =>
    obtain ⟨j, k, b, hj, HBV, rfl, rfl, HS⟩ := hrel
    have HJ := Lib.hid hj
    have hks := HS.out.small
    rcases Nat.eq_zero_or_pos j with rfl | hj0
    · obtain rfl : b = 0 := HBV.out.symm
      have HR2 := Lib.hid HS.out.end_
      have hkk : k < 4503599627370496 := by have := HS.out.small; simp at this; omega
      have hk64 : k < 18446744073709551616 := by omega
      have HKS := Lib.hid hks
      clear hks hj
      go_wp2_with (first | (go_at_call 58; refine (limbsOf_any k _ hk64).mono ?_; rintro e w1 ⟨hb1, A1, n1, c1, l1, rfl, hl1, hn1, hv1⟩; have hlen1 : n1 ≤ 2 := (by rw [← hl1.len]; exact norm_len_le hn1 (by rw [hv1, W_2b]; exact hk64)); have HI1 : Hid (IntH w1 false A1 n1 c1 (k : Int) 2 true) := Lib.hid ⟨⟨l1, fun w' hb => hl1.below hb (Nat.le_refl _) hb.size, by rw [hv1]; simp [sg], fun _ => ⟨hn1, fun h => by cases h⟩⟩, hlen1⟩; have HC1 := Lib.hid hb1; clear hl1 hn1 hv1 hb1) | (go_at_call 57; refine (signed_any false A1 n1 c1 _).mono ?_; rintro e w2 ⟨rfl, hb2⟩; have HC2 := Lib.hid (HC1.out.trans (hb2.mono HC1.out.size)); have HS2 := Lib.hid hb2; clear hb2) | (go_at_call 13; refine (ofBH (d : Int) _ (by omega) (by omega)).mono ?_; rintro e w3 ⟨hb3, s3, A3, n3, c3, rfl, hi3⟩; have HI3 := Lib.hid hi3; have HC3 := Lib.hid (HC2.out.trans (hb3.mono HC2.out.size)); have HS3 := Lib.hid (HS2.out.trans (hb3.mono HS2.out.size)); clear hb3 hi3) | (go_at_call 71; go_loud (refine (fractionH HI1.out HI3.out HS3.out (Below.refl _ _) (by omega) (by omega) (by omega)).mono ?_; rintro e w4 ⟨hb4, t1, B1, m1, d1, t2, B2, m2, d2, rfl, hr⟩; have HR := Lib.hid hr; have HC4 := Lib.hid (HC3.out.trans (hb4.mono HC3.out.size)); have kr : Bk w4 w.heap.size 41 #[.bool false, .slice none 0 0, .bool false, .slice none 0 0] := (Bk.at_ rfl).below HC4.out (by simp); have HKR := Lib.hid kr; have okr := kr.lt; have y0 := kr.cell 0; have y1 := kr.cell 1; have y2 := kr.cell 2; have y3 := kr.cell 3; have f0 := kr.frozen 0; have f1 := kr.frozen 1; have f2 := kr.frozen 2; have f3 := kr.frozen 3; simp at y0 y1 y2 y3; clear hb4 hr kr)))
      have hbR : Below w.heap.size w w4 := ((Below.refl _ w).alloc (Nat.le_refl _) _).trans (HC4.out.mono (by simp))
      refine bodyPost_ret (v := .tuple #[.agg #[.bool t1, .slice B1 m1 d1, .bool t2, .slice B2 m2 d2], .int .i64 0]) (by simp [results, Tryz.results47, go_sem, y0, y1, y2, y3]) rfl ?_
      refine ⟨(((hbR.setCell (by simp) _).setCell (by simp) _).setCell (by simp) _).setCell (by simp) _, k, HR2.out, hkk, t1, B1, m1, d1, t2, B2, m2, d2, rfl, ?_⟩
      refine HR.out.stored HKR.out (fun p hp => ?_) (by simp [World.setCell])
      rw [set_past p hp, set_past p hp, set_past p hp, set_past p hp]
    · obtain ⟨i, rfl⟩ : ∃ i, j = i + 1 := ⟨j - 1, by omega⟩
      have hbi : b = 2 ^ i := by rw [← HBV.out, Nat.pow_succ]; omega
      have hp := Nat.two_pow_pos i
      obtain ⟨b2, hb2⟩ : ∃ b2, b / 2 = b2 := ⟨_, rfl⟩
      have HP : Hid (2 ^ i / 2 = b2) := Lib.hid (by rw [← hb2, hbi])
      have e2 : 2 ^ (i + 1) = b + b := by rw [Nat.pow_succ, hbi]; omega
      rw [e2] at hks
      have hor : bits .or .u64 (k : Int) (b : Int) = ((k + b : Nat) : Int) := by rw [hbi]; exact or_pow k i (by omega) (by omega) HS.out.mul
      have hgt : decide ((b : Int) > 0) = true := decide_eq_true (by omega)
      have hb0 : 0 < b := by omega
      have hsh : (b : Int) / 2 = (b2 : Int) := by omega
      have hlt2 : b2 < b := by omega
      have hks2 : k + b < 18446744073709551616 := by omega
      obtain ⟨kb, hkb⟩ : ∃ kb, k + b = kb := ⟨_, rfl⟩
      rw [hkb] at hor hks2
      by_cases hf : kb * kb ≤ N
      · have SQk := Lib.hid (SQ.out kb)
        rw [decide_eq_true hf] at SQk
        have HN : Hid (Srch N i kb) := Lib.hid (by have := HS.out.more (by rw [← hbi, hkb]; exact hf); rwa [← hbi, hkb] at this)
        clear hbi e2 hp hf hkb hb2 hks hj
        go_wp2_with (go_at_call 80; refine (SQk.out _ (by omega)).mono ?_; rintro e w' ⟨rfl, rfl⟩)
        go_round
        case rel => exact ⟨i, kb, b2, (by have := HJ.out; omega), HP, by rfl, rfl, HN⟩
        case measure => simp [intOf]; omega
      · have SQk := Lib.hid (SQ.out kb)
        rw [decide_eq_false hf] at SQk
        have HN : Hid (Srch N i k) := Lib.hid (HS.out.same (by rw [← hbi, hkb]; exact hf))
        clear hbi e2 hp hf hkb hb2 hks hj
        go_wp2_with (go_at_call 80; refine (SQk.out _ (by omega)).mono ?_; rintro e w' ⟨rfl, rfl⟩)
        go_round
        case rel => exact ⟨i, k, b2, (by have := HJ.out; omega), HP, by rfl, rfl, HN⟩
        case measure => simp [intOf]; omega

end Go.Proofs.YtfjcbmdeaiaeiaaGreat

/- Roots: RootBelow with an error, on both sides. -/
namespace Go.Proofs.YtfjcbmdeaiaeiaaGreat
open Go.RowKit

set_option maxRecDepth 100000 in
set_option maxHeartbeats 800000 in
theorem rootBelow_bad (a d : Int) (w : World) (h : a < 0 ∨ d < 1 ∨ d > 1000000) :
    Calls Tryz.prog 47 #[.int .i64 a, .int .i64 d] w fun e w' => Below w.heap.size w w' ∧ e = .returned (.tuple #[.agg #[.bool false, .slice none 0 0, .bool false, .slice none 0 0], .int .i64 2]) := by
  by_cases h1 : a < 0
  · have e1 : decide (a < 0) = true := decide_eq_true h1
    clear h1 h
    go_enter Tryz.func47, Tryz.ntmps47
    go_wp2
    refine bodyPost_ret (v := .tuple #[.agg #[.bool false, .slice none 0 0, .bool false, .slice none 0 0], .int .i64 2]) (by simp [results, Tryz.results47, go_sem]) rfl ?_
    exact ⟨(by repeat (first | with_reducible exact Below.refl _ _ | with_reducible assumption | with_reducible refine Below.drew ?_ | with_reducible refine Below.drewN ?_ _ | with_reducible refine Below.alloc2 ?_ _ | with_reducible refine Below.alloc ?_ (by first | omega | (simp <;> omega)) _ | with_reducible refine Below.setCell ?_ (by first | omega | (simp <;> omega)) _ | with_reducible refine Below.step2 (by with_reducible assumption) ?_ | with_reducible refine Below.step (by with_reducible assumption) ?_ (by first | omega | (simp <;> omega)))), rfl⟩
  · have e1 : decide (a < 0) = false := decide_eq_false h1
    by_cases h2 : d < 1
    · have e2 : decide (d < 1) = true := decide_eq_true h2
      clear h1 h2 h
      go_enter Tryz.func47, Tryz.ntmps47
      go_wp2
      refine bodyPost_ret (v := .tuple #[.agg #[.bool false, .slice none 0 0, .bool false, .slice none 0 0], .int .i64 2]) (by simp [results, Tryz.results47, go_sem]) rfl ?_
      exact ⟨(by repeat (first | with_reducible exact Below.refl _ _ | with_reducible assumption | with_reducible refine Below.drew ?_ | with_reducible refine Below.drewN ?_ _ | with_reducible refine Below.alloc2 ?_ _ | with_reducible refine Below.alloc ?_ (by first | omega | (simp <;> omega)) _ | with_reducible refine Below.setCell ?_ (by first | omega | (simp <;> omega)) _ | with_reducible refine Below.step2 (by with_reducible assumption) ?_ | with_reducible refine Below.step (by with_reducible assumption) ?_ (by first | omega | (simp <;> omega)))), rfl⟩
    · have e2 : decide (d < 1) = false := decide_eq_false h2
      have e3 : decide (d > 1000000) = true := decide_eq_true ((h.resolve_left h1).resolve_left h2)
      clear h1 h2 h
      go_enter Tryz.func47, Tryz.ntmps47
      go_wp2
      refine bodyPost_ret (v := .tuple #[.agg #[.bool false, .slice none 0 0, .bool false, .slice none 0 0], .int .i64 2]) (by simp [results, Tryz.results47, go_sem]) rfl ?_
      exact ⟨(by repeat (first | with_reducible exact Below.refl _ _ | with_reducible assumption | with_reducible refine Below.drew ?_ | with_reducible refine Below.drewN ?_ _ | with_reducible refine Below.alloc2 ?_ _ | with_reducible refine Below.alloc ?_ (by first | omega | (simp <;> omega)) _ | with_reducible refine Below.setCell ?_ (by first | omega | (simp <;> omega)) _ | with_reducible refine Below.step2 (by with_reducible assumption) ?_ | with_reducible refine Below.step (by with_reducible assumption) ?_ (by first | omega | (simp <;> omega)))), rfl⟩
set_option maxRecDepth 100000 in
set_option maxHeartbeats 800000 in
theorem refRootBelow_bad (a d : Int) (w : World) (h : a < 0 ∨ d < 1 ∨ d > 1000000) :
    Calls Tryz.prog 48 #[.int .i64 a, .int .i64 d] w fun e w' => Below w.heap.size w w' ∧ e = .returned (.tuple #[.agg #[.bool false, .slice none 0 0, .bool false, .slice none 0 0], .int .i64 2]) := by
  by_cases h1 : a < 0
  · have e1 : decide (a < 0) = true := decide_eq_true h1
    clear h1 h
    go_enter Tryz.func48, Tryz.ntmps48
    go_wp2
    refine bodyPost_ret (v := .tuple #[.agg #[.bool false, .slice none 0 0, .bool false, .slice none 0 0], .int .i64 2]) (by simp [results, Tryz.results48, go_sem]) rfl ?_
    exact ⟨(by repeat (first | with_reducible exact Below.refl _ _ | with_reducible assumption | with_reducible refine Below.drew ?_ | with_reducible refine Below.drewN ?_ _ | with_reducible refine Below.alloc2 ?_ _ | with_reducible refine Below.alloc ?_ (by first | omega | (simp <;> omega)) _ | with_reducible refine Below.setCell ?_ (by first | omega | (simp <;> omega)) _ | with_reducible refine Below.step2 (by with_reducible assumption) ?_ | with_reducible refine Below.step (by with_reducible assumption) ?_ (by first | omega | (simp <;> omega)))), rfl⟩
  · have e1 : decide (a < 0) = false := decide_eq_false h1
    by_cases h2 : d < 1
    · have e2 : decide (d < 1) = true := decide_eq_true h2
      clear h1 h2 h
      go_enter Tryz.func48, Tryz.ntmps48
      go_wp2
      refine bodyPost_ret (v := .tuple #[.agg #[.bool false, .slice none 0 0, .bool false, .slice none 0 0], .int .i64 2]) (by simp [results, Tryz.results48, go_sem]) rfl ?_
      exact ⟨(by repeat (first | with_reducible exact Below.refl _ _ | with_reducible assumption | with_reducible refine Below.drew ?_ | with_reducible refine Below.drewN ?_ _ | with_reducible refine Below.alloc2 ?_ _ | with_reducible refine Below.alloc ?_ (by first | omega | (simp <;> omega)) _ | with_reducible refine Below.setCell ?_ (by first | omega | (simp <;> omega)) _ | with_reducible refine Below.step2 (by with_reducible assumption) ?_ | with_reducible refine Below.step (by with_reducible assumption) ?_ (by first | omega | (simp <;> omega)))), rfl⟩
    · have e2 : decide (d < 1) = false := decide_eq_false h2
      have e3 : decide (d > 1000000) = true := decide_eq_true ((h.resolve_left h1).resolve_left h2)
      clear h1 h2 h
      go_enter Tryz.func48, Tryz.ntmps48
      go_wp2
      refine bodyPost_ret (v := .tuple #[.agg #[.bool false, .slice none 0 0, .bool false, .slice none 0 0], .int .i64 2]) (by simp [results, Tryz.results48, go_sem]) rfl ?_
      exact ⟨(by repeat (first | with_reducible exact Below.refl _ _ | with_reducible assumption | with_reducible refine Below.drew ?_ | with_reducible refine Below.drewN ?_ _ | with_reducible refine Below.alloc2 ?_ _ | with_reducible refine Below.alloc ?_ (by first | omega | (simp <;> omega)) _ | with_reducible refine Below.setCell ?_ (by first | omega | (simp <;> omega)) _ | with_reducible refine Below.step2 (by with_reducible assumption) ?_ | with_reducible refine Below.step (by with_reducible assumption) ?_ (by first | omega | (simp <;> omega)))), rfl⟩

end Go.Proofs.YtfjcbmdeaiaeiaaGreat

/- A fraction over any number but zero. -/
namespace Go.Proofs.YtfjcbmdeaiaeiaaGreat
open Go.RowKit

theorem divInt_bd0 {p q : Int} (hq : q ≠ 0) : (Rat.divInt p q).num.natAbs ≤ p.natAbs ∧ (Rat.divInt p q).den ≤ q.natAbs := by
  rcases Int.lt_or_le q 0 with h | h
  · have := divInt_bd (p := -p) (q := -q) (by omega)
    rw [Rat.neg_divInt_neg] at this
    omega
  · exact divInt_bd (by omega)
theorem fraction_num0 (u v : Value) (p q : Int) (w : World) (hu : NumAt w w.heap.size u p) (hv : NumAt w w.heap.size v q) (hp : p.natAbs < W 536870912) (hq : q.natAbs < W 536870912) (h0 : q ≠ 0) :
    Calls Tryz.prog 71 #[u, v] w (RatR (Rat.divInt p q) w) := by
  obtain ⟨s1, A1, n1, c1, l1, rfl, L1, N1, rfl⟩ := hu
  obtain ⟨s2, A2, n2, c2, l2, rfl, L2, N2, rfl⟩ := hv
  have e1 : (sg s1 (val l1)).natAbs = val l1 := by cases s1 <;> simp [sg]
  have e2 : (sg s2 (val l2)).natAbs = val l2 := by cases s2 <;> simp [sg]
  rw [e1] at hp
  rw [e2] at hq
  have m1 := norm_len_le N1 hp
  have m2 := norm_len_le N2 hq
  rw [L1.len] at m1
  rw [L2.len] at m2
  have h3 : 0 < val l2 := by
    rcases Nat.eq_zero_or_pos (val l2) with h | h
    · rw [h] at h0; exact absurd (by cases s2 <;> simp [sg]) h0
    · exact h
  refine (fraction_any s1 s2 A1 A2 n1 c1 n2 c2 l1 l2 w L1 L2 N1 N2 m1 m2 h3).mono ?_
  rintro e w' ⟨hb, r, rfl, hr⟩
  refine ⟨hb, r, rfl, ?_⟩
  unfold RatAt
  rw [rat_num _ _ _ _ h3, rat_den _ _ _ _ h3]
  exact hr
theorem fractionH0 {w w1 w2 : World} {s1 s2 : Bool} {A1 A2 : Option Addr} {n1 c1 n2 c2 K1 K2 : Nat} {p q : Int} (h1 : IntH w1 s1 A1 n1 c1 p K1 true) (h2 : IntH w2 s2 A2 n2 c2 q K2 true) (b1 : Below w1.heap.size w1 w) (b2 : Below w2.heap.size w2 w) (k1 : K1 ≤ 100000) (k2 : K2 ≤ 100000) (h0 : q ≠ 0) :
    Calls Tryz.prog 71 #[.agg #[.bool s1, .slice A1 n1 c1], .agg #[.bool s2, .slice A2 n2 c2]] w (MakesRat (Rat.divInt p q) (K1 + K2) w) := by
  have a1 := h1.abs
  have a2 := h2.abs
  have m1 : W K1 ≤ W (K1 + K2) := W_mono (by omega)
  have m2 : W K2 ≤ W (K1 + K2) := W_mono (by omega)
  obtain ⟨d1, d2⟩ := divInt_bd0 (p := p) h0
  exact (fraction_num0 _ _ p q w (h1.num b1) (h2.num b2) (Nat.lt_of_lt_of_le a1 (W_mono (by omega))) (Nat.lt_of_lt_of_le a2 (W_mono (by omega))) h0).mono fun e w' h => makesR_of h (by omega) (by omega)
theorem isZeroH {w w1 : World} {s : Bool} {A : Option Addr} {n c K : Nat} {z : Int} {f b : Bool} (h : IntH w1 s A n c z K f) (hb : decide (z = 0) = b) (b1 : Below w1.heap.size w1 w) :
    Calls Tryz.prog 67 #[.agg #[.bool s, .slice A n c]] w fun e w' => Below w.heap.size w w' ∧ e = .returned (.bool b) := by
  obtain ⟨l, g, rfl, -⟩ := h.lim
  refine (isZero_any s A n c l w (g w b1)).mono ?_
  rintro e w' ⟨rfl, hbw⟩
  refine ⟨hbw, ?_⟩
  rw [← hb]
  have : (sg s (val l) = 0) ↔ (val l = 0) := by cases s <;> simp [sg]
  simp only [this]
theorem quo_eq {p q r s : Int} {x y : Rat} (h1 : Rat.divInt p q = x) (h2 : Rat.divInt r s = y) : Rat.divInt (p * s) (q * r) = x / y := by
  rw [← h1, ← h2, Rat.div_def, Rat.inv_divInt, Rat.divInt_mul_divInt]
theorem quo_zero {r s : Int} {y : Rat} (h2 : Rat.divInt r s = y) (hs : 0 < s) : r = 0 ↔ y = 0 := by
  have e := rat_mul h2 hs
  have s0 : (s : Rat) ≠ 0 := by exact_mod_cast (show s ≠ 0 by omega)
  constructor
  · intro h
    rw [h] at e
    rcases Rat.mul_eq_zero.1 e with h | h
    · exact h
    · exact absurd h s0
  · intro h
    rw [h, Rat.zero_mul] at e
    exact_mod_cast e.symm

end Go.Proofs.YtfjcbmdeaiaeiaaGreat

/- The law's Whole and Ratio on exact's side. -/
namespace Go.Proofs.YtfjcbmdeaiaeiaaGreat
open Go.RowKit

theorem ofEH (z : Int) (w : World) (h1 : -9223372036854775808 ≤ z) (h2 : z ≤ 9223372036854775807) : Calls Tryz.prog 13 #[.int .i64 z] w (MakesInt z 2 w) :=
  (of_any z w h1 h2).mono fun _ _ h => makes_of h (by rw [W_two]; omega)
theorem wholeH (n : Int) (w : World) (h1 : -9223372036854775808 ≤ n) (h2 : n ≤ 9223372036854775807) : Calls Tryz.prog 29 #[.int .i64 n] w (MakesRat (Rat.divInt n 1) 6 w) := by
  have hF : Rat.divInt n 1 = (n : Rat) := Rat.ext (by rw [Rat.num_divInt]; simp) (by rw [Rat.den_divInt]; simp)
  have hW : W 2 ≤ W 6 := W_mono (by omega)
  rw [W_two] at hW
  refine (whole_any n w h1 h2).mono fun e w' h => ?_
  rw [hF]
  exact makesR_of h (by rw [Rat.num_intCast]; omega) (by rw [Rat.den_intCast]; omega)
section
set_option maxRecDepth 100000 in
set_option maxHeartbeats 8000000 in
theorem ratioH (n d : Int) (w : World) (h1 : -9223372036854775808 ≤ n) (h2 : n ≤ 9223372036854775807) (h3 : -9223372036854775808 ≤ d) (h4 : d ≤ 9223372036854775807) (h0 : d ≠ 0) :
    Calls Tryz.prog 26 #[.int .i64 n, .int .i64 d] w fun e w' => Below w.heap.size w w' ∧ ∃ s1 A1 n1 c1 s2 A2 n2 c2, e = .returned (.tuple #[.agg #[.bool s1, .slice A1 n1 c1, .bool s2, .slice A2 n2 c2], .int .i64 0]) ∧ RatH w' s1 A1 n1 c1 s2 A2 n2 c2 (Rat.divInt n d) 6 true := by
  have hdb : (d == 0) = false := by simpa using h0
  go_enter Tryz.func26, Tryz.ntmps26
  go_wp2_with (first
    | (go_at_call 13; go_loud (with_reducible refine (ofEH n _ h1 h2).mono ?_; rintro e wa ⟨hba, sa, Aa, na, ca, rfl, ia⟩; have HBA : Hid (Below w.heap.size w wa) := Lib.hid (by repeat (first | with_reducible exact Below.refl _ _ | with_reducible assumption | with_reducible refine Below.drew ?_ | with_reducible refine Below.drewN ?_ _ | with_reducible refine Below.alloc2 ?_ _ | with_reducible refine Below.alloc ?_ (by first | omega | (simp <;> omega)) _ | with_reducible refine Below.setCell ?_ (by first | omega | (simp <;> omega)) _ | with_reducible refine Below.step2 (by with_reducible assumption) ?_ | with_reducible refine Below.step (by with_reducible assumption) ?_ (by first | omega | (simp <;> omega)))); have HKA : Hid (Bk wa w.heap.size 41 #[.bool false, .slice none 0 0, .bool false, .slice none 0 0]) := Lib.hid (by repeat (first | with_reducible assumption | with_reducible exact Bk.at_ (by first | (simp; done) | omega) | with_reducible refine Bk.alloc ?_ _ | with_reducible refine Bk.drew ?_ | with_reducible refine Bk.drewN ?_ _ | with_reducible refine Bk.step (by with_reducible assumption) ?_ (by first | omega | (simp <;> omega)))); have HIA := Lib.hid ia; clear hba ia))
    | (go_at_call 13; go_loud (with_reducible refine (ofEH d _ h3 h4).mono ?_; rintro e wb ⟨hbb, sb, Ab, nb, cb, rfl, ib⟩; have HBB := Lib.hid (below_to HBA.out hbb HBA.out.size); have HIB := Lib.hid ib; have HIA2 := Lib.hid (HIA.out.later hbb); have HKB := Lib.hid (HKA.out.below hbb HKA.out.lt); clear hbb ib))
    | (go_at_call 71; go_loud (with_reducible refine (fractionH0 HIA2.out HIB.out (Below.refl _ _) (Below.refl _ _) (by omega) (by omega) h0).mono ?_; rintro e wf ⟨hbf, t1, B1, m1, d1, t2, B2, m2, d2, rfl, hr⟩; have hk2 := HKB.out.below hbf HKB.out.lt; obtain ⟨r0, r1, r2, r3⟩ := hk2.four4; have f0 := hk2.frozen 0; have f1 := hk2.frozen 1; have f2 := hk2.frozen 2; have f3 := hk2.frozen 3; have HK2 := Lib.hid (And.intro True.intro (And.intro hk2 (below_to HBB.out hbf HBB.out.size))); have HR := Lib.hid hr; clear hbf hk2 hr)))
  obtain ⟨V, hV, hVb, hVk, hVr⟩ := stored_rat HK2.out.2.2 (Nat.le_refl _) HK2.out.2.1 (HR.out.wide (show 2 + 2 ≤ 6 by omega))
  rw [← hV]
  clear hV
  obtain ⟨y0, y1, y2, y3⟩ := hVk.four4
  refine bodyPost_ret (v := .tuple #[.agg #[.bool t1, .slice B1 m1 d1, .bool t2, .slice B2 m2 d2], .int .i64 0]) (by simp [results, Tryz.results26, go_sem, y0, y1, y2, y3]) rfl ?_
  exact ⟨hVb, t1, B1, m1, d1, t2, B2, m2, d2, rfl, hVr⟩
set_option maxRecDepth 100000 in
set_option maxHeartbeats 8000000 in
theorem ratioH0 (n : Int) (w : World) :
    Calls Tryz.prog 26 #[.int .i64 n, .int .i64 0] w fun e w' => Below w.heap.size w w' ∧ e = .returned (.tuple #[.agg #[.bool false, .slice none 0 0, .bool false, .slice none 0 0], .int .i64 9]) := by
  go_enter Tryz.func26, Tryz.ntmps26
  go_wp2
  have k := Bk.alloc_ w 41 #[.bool false, .slice none 0 0, .bool false, .slice none 0 0]
  obtain ⟨y0, y1, y2, y3⟩ := k.four4
  refine bodyPost_ret (v := .tuple #[.agg #[.bool false, .slice none 0 0, .bool false, .slice none 0 0], .int .i64 9]) (by simp [results, Tryz.results26, go_sem, y0, y1, y2, y3]) rfl ⟨(by repeat (first | with_reducible exact Below.refl _ _ | with_reducible assumption | with_reducible refine Below.drew ?_ | with_reducible refine Below.drewN ?_ _ | with_reducible refine Below.alloc2 ?_ _ | with_reducible refine Below.alloc ?_ (by first | omega | (simp <;> omega)) _ | with_reducible refine Below.setCell ?_ (by first | omega | (simp <;> omega)) _ | with_reducible refine Below.step2 (by with_reducible assumption) ?_ | with_reducible refine Below.step (by with_reducible assumption) ?_ (by first | omega | (simp <;> omega)))), rfl⟩
end

end Go.Proofs.YtfjcbmdeaiaeiaaGreat

/- Roots, the reference: RootBelow. -/
namespace Go.Proofs.YtfjcbmdeaiaeiaaGreat
open Go Go.RowKit

/- What is kept through a call: HB (from wq), HG (the square), H7 (the number), HZ (the result's box). -/
set_option maxRecDepth 100000 in
set_option maxHeartbeats 800000 in
theorem refRootBelow_ok (a d : Nat) (w : World) (ha : a < 9223372036854775808) (hd0 : 1 ≤ d) (hd1 : d ≤ 1000000) :
    Calls Tryz.prog 48 #[.int .i64 (a : Int), .int .i64 (d : Int)] w fun e w' => Below w.heap.size w w' ∧ ∃ k, IsRoot (a * (d * d)) k ∧ k < 9007199254740992 ∧ ∃ s1 A1 n1 c1 s2 A2 n2 c2, e = .returned (.tuple #[.agg #[.bool s1, .slice A1 n1 c1, .bool s2, .slice A2 n2 c2], .int .i64 0]) ∧ RatH w' s1 A1 n1 c1 s2 A2 n2 c2 (Rat.divInt k d) 6 true := by
  have hdd : d * d ≤ 1000000 * 1000000 := Nat.mul_le_mul hd1 hd1
  have hN1 : a * (d * d) < 4503599627370496 * 4503599627370496 := by
    have h := Nat.mul_le_mul (Nat.le_of_lt ha) hdd
    omega
  have ST := Lib.hid (SrchR.start hN1)
  obtain ⟨N, hN⟩ : ∃ N, a * (d * d) = N := ⟨_, rfl⟩
  have hNi : (a : Int) * ((d : Int) * (d : Int)) = (N : Int) := by rw [← hN]; push_cast; rfl
  rw [hN] at ST ⊢
  have z1 : decide ((a : Int) < 0) = false := decide_eq_false (by omega)
  have z2 : decide ((d : Int) < 1) = false := decide_eq_false (by omega)
  have z3 : decide ((d : Int) > 1000000) = false := decide_eq_false (by omega)
  clear hN1 hdd hN
  go_enter Tryz.func48, Tryz.ntmps48
  go_upto_region 3 with fail
  obtain ⟨W, hW⟩ : ∃ W, W = (w.alloc (.cells #[.bool false, .slice none 0 0, .bool false, .slice none 0 0] 41)) := ⟨_, rfl⟩
  have HBW : Hid (Below w.heap.size w W) := Lib.hid (by rw [hW]; exact (by repeat (first | with_reducible exact Below.refl _ _ | with_reducible assumption | with_reducible refine Below.drew ?_ | with_reducible refine Below.drewN ?_ _ | with_reducible refine Below.alloc2 ?_ _ | with_reducible refine Below.alloc ?_ (by first | omega | (simp <;> omega)) _ | with_reducible refine Below.setCell ?_ (by first | omega | (simp <;> omega)) _ | with_reducible refine Below.step2 (by with_reducible assumption) ?_ | with_reducible refine Below.step (by with_reducible assumption) ?_ (by first | omega | (simp <;> omega)))))
  have HZW : Hid (Bk W w.heap.size 41 #[.bool false, .slice none 0 0, .bool false, .slice none 0 0]) := Lib.hid (by rw [hW]; exact (by repeat (first | with_reducible assumption | with_reducible exact Bk.at_ (by first | (simp; done) | omega) | with_reducible refine Bk.alloc ?_ _ | with_reducible refine Bk.drew ?_ | with_reducible refine Bk.drewN ?_ _ | with_reducible refine Bk.step (by with_reducible assumption) ?_ (by first | omega | (simp <;> omega)))))
  rw [← hW]
  clear hW z1 z2 z3
  go_upto_region 5 with (first
    | (go_at_call 20; with_reducible refine (rprodH HIa.out HIp.out (below_to HSb.out (below_to HSc.out HSp.out HSc.out.size) HSb.out.size) (Below.refl _ _) (by omega) (by omega)).mono ?_; rintro e wq ⟨hbq, sq, Aq, nq, cq, rfl, iq⟩; have HBq := Lib.hid (below_to HBp.out hbq HBp.out.size); have HSq := Lib.hid hbq; have HIq := Lib.hid iq; have HZq := Lib.hid (HZp.out.below hbq HZp.out.lt); clear hbq iq)
    | (go_at_call 20; with_reducible refine (rprodH HIb.out HIc.out HSc.out (Below.refl _ _) (by omega) (by omega)).mono ?_; rintro e wp ⟨hbp, sp, Ap, np, cp, rfl, ip⟩; have HBp := Lib.hid (below_to HBc.out hbp HBc.out.size); have HSp := Lib.hid hbp; have HIp := Lib.hid ip; have HZp := Lib.hid (HZc.out.below hbp HZc.out.lt); clear hbp ip)
    | (go_at_call 14; with_reducible refine (rofH (d : Int) _ (by omega) (by omega)).mono ?_; rintro e wc ⟨hbc, sc, Ac, nc, cc, rfl, ic⟩; have HBc := Lib.hid (below_to HBb.out hbc HBb.out.size); have HSc := Lib.hid hbc; have HIc := Lib.hid ic; have HZc := Lib.hid (HZb.out.below hbc HZb.out.lt); clear hbc ic)
    | (go_at_call 14; with_reducible refine (rofH (d : Int) _ (by omega) (by omega)).mono ?_; rintro e wb ⟨hbb, sb, Ab, nb, cb, rfl, ib⟩; have HBb := Lib.hid (below_to HBa.out hbb HBa.out.size); have HSb := Lib.hid hbb; have HIb := Lib.hid ib; have HZb := Lib.hid (HZa.out.below hbb HZa.out.lt); clear hbb ib)
    | (go_at_call 14; go_loud (with_reducible refine (rofH (a : Int) _ (by omega) (by omega)).mono ?_; rintro e wa ⟨hba, sa, Aa, na, ca, rfl, ia⟩; have HBa := Lib.hid (below_to HBW.out hba HBW.out.size); have HSa := Lib.hid hba; have HIa := Lib.hid ia; have HZa := Lib.hid (HZW.out.below hba HZW.out.lt); clear hba ia)))
  have HBq' := HBq
  obtain ⟨T, hT⟩ : ∃ T, T = ((wq.alloc (.cells #[.bool sq, .slice Aq nq cq] 24)).alloc (.cells #[.bool false, .slice none 0 0] 24)) := ⟨_, rfl⟩
  have hbt : Below wq.heap.size wq T := by rw [hT]; exact (by repeat (first | with_reducible exact Below.refl _ _ | with_reducible assumption | with_reducible refine Below.drew ?_ | with_reducible refine Below.drewN ?_ _ | with_reducible refine Below.alloc2 ?_ _ | with_reducible refine Below.alloc ?_ (by first | omega | (simp <;> omega)) _ | with_reducible refine Below.setCell ?_ (by first | omega | (simp <;> omega)) _ | with_reducible refine Below.step2 (by with_reducible assumption) ?_ | with_reducible refine Below.step (by with_reducible assumption) ?_ (by first | omega | (simp <;> omega))))
  have hgt : Bk T wq.heap.size 24 #[.bool sq, .slice Aq nq cq] := by rw [hT]; exact (by repeat (first | with_reducible assumption | with_reducible exact Bk.at_ (by first | (simp; done) | omega) | with_reducible refine Bk.alloc ?_ _ | with_reducible refine Bk.drew ?_ | with_reducible refine Bk.drewN ?_ _ | with_reducible refine Bk.step (by with_reducible assumption) ?_ (by first | omega | (simp <;> omega))))
  have h7t : Bk T (wq.heap.size + 1) 24 #[.bool false, .slice none 0 0] := by rw [hT]; exact (by repeat (first | with_reducible assumption | with_reducible exact Bk.at_ (by first | (simp; done) | omega) | with_reducible refine Bk.alloc ?_ _ | with_reducible refine Bk.drew ?_ | with_reducible refine Bk.drewN ?_ _ | with_reducible refine Bk.step (by with_reducible assumption) ?_ (by first | omega | (simp <;> omega))))
  rw [← hT]
  have hiq := HIq.out
  rw [hNi] at hiq
  have HIN := Lib.hid hiq
  have howq := HBq.out.size
  have hZlt := HZq.out.lt
  clear hT hiq hNi HBW HZW HBa HSa HIa HZa HBb HSb HIb HZb HBc HSc HIc HZc HBp HSp HIp HZp HIq HSq HBq
  go_wp2
  go_loopw [8] (fun v8 wr => ∃ (j k : Nat) (s : Bool) (A : Option Addr) (n c : Nat), v8 = .int .i64 ((j : Int) - 1) ∧ j ≤ 53 ∧ Hid (SrchR N j k) ∧ Bk wr wq.heap.size 24 #[.bool sq, .slice Aq nq cq] ∧ Bk wr (wq.heap.size + 1) 24 #[.bool s, .slice A n c] ∧ IntH wr s A n c (k : Int) 2 true ∧ Below wq.heap.size wq wr) (fun v8 _ => (intOf v8 + 1).toNat)
  case atStart => exact ⟨53, 0, false, none, 0, 0, rfl, Nat.le_refl _, ST, hgt, h7t, IntH.wide (IntH.nil_ _) (by omega), hbt⟩
  case round =>
    clear hbt hgt h7t ST
    obtain ⟨j, k, s, A, n, c, rfl, hj, HS, hg, h7, hi, hb⟩ := hrel
    obtain ⟨wo, rfl⟩ : ∃ x, x = wr := ⟨_, rfl⟩
    have HBo := Lib.hid hb
    have HGo := Lib.hid hg
    have H7o := Lib.hid h7
    have HIo := Lib.hid hi
    have HJo := HIo
    have HZo := Lib.hid (HZq.out.below hb HZq.out.lt)
    clear hb hg h7 hi
    rcases Nat.eq_zero_or_pos j with rfl | hj0
    · have e0 : decide ((((0 : Nat) : Int) - 1) ≥ 0) = false := decide_eq_false (by omega)
      have HR := Lib.hid HS.out.end_
      have hks : k < 9007199254740992 := by have := HS.out.small; simp at this; omega
      have hdne : (d : Int) ≠ 0 := by omega
      clear HS hj
      go_upto_region 11 with fail
      have HC : Hid ((fun w' : World => w'.cell? ⟨wq.heap.size + 1, 0, none⟩ = some (.bool s) ∧ w'.cell? ⟨wq.heap.size + 1, 1, none⟩ = some (.slice A n c)) wo.drew) := Lib.hid H7o.out.duo
      refine region_goes (n := 6) (fun w' => w'.cell? ⟨wq.heap.size + 1, 0, none⟩ = some (.bool s) ∧ w'.cell? ⟨wq.heap.size + 1, 1, none⟩ = some (.slice A n c)) [4, 5] (by kernel_rfl) rfl ?_
      refine goes_takeE (i := 0) (E := [4, 5]) (v := .agg #[.bool s, .slice A n c]) rfl (by kernel_rfl) rfl (fun _ _ _ h => h) (by intro w' hw'; obtain ⟨z0, z1⟩ := hw'; go_simp) HC.out ?_
      refine goes_takeE (i := 1) (E := [4, 5]) (v := .int .i64 (d : Int)) rfl (by kernel_rfl) rfl (fun _ _ _ h => h) (by intro w' hw'; obtain ⟨z0, z1⟩ := hw'; go_simp) HC.out ?_
      refine goes_call (i := 2) rfl (by kernel_rfl) ?_
      go_wp2_with (go_at_call 14; go_loud (with_reducible refine (rofH (d : Int) _ (by omega) (by omega)).mono ?_; rintro e wa ⟨hba, sa, Aa, na, ca, rfl, ia⟩; have hba := below_drw hba; have HBa := Lib.hid (below_to HBo.out hba HBo.out.size); have HGa := Lib.hid (HGo.out.below hba HGo.out.lt); have H7a := Lib.hid (H7o.out.below hba H7o.out.lt); have HZa := Lib.hid (HZo.out.below hba HZo.out.lt); have HJa := Lib.hid (HJo.out.later hba); have HIa := Lib.hid ia; have HIk := Lib.hid (HIo.out.later hba); clear hba ia))
      refine behind_ok ⟨H7a.out.duo, ?_⟩
      refine goes_call (i := 3) rfl (by kernel_rfl) ?_
      go_wp2_with (go_at_call 72; go_loud (with_reducible refine (roverH HIk.out HIa.out (Below.refl _ _) (Below.refl _ _) (by omega) (by omega) hdne).mono ?_; rintro e wf ⟨hbf, q1, C1, i1, e1, q2, C2, i2, e2, rfl, hr⟩; have HBf := Lib.hid (below_to HBa.out hbf HBa.out.size); have HGf := Lib.hid (HGa.out.below hbf HGa.out.lt); have H7f := Lib.hid (H7a.out.below hbf H7a.out.lt); have HZf := Lib.hid (HZa.out.below hbf HZa.out.lt); have HJf := Lib.hid (HJa.out.later hbf); have HRf := Lib.hid hr; obtain ⟨r0, r1, r2, r3⟩ := HZf.out.four4; have fz0 := HZf.out.frozen 0; have fz1 := HZf.out.frozen 1; have fz2 := HZf.out.frozen 2; have fz3 := HZf.out.frozen 3; clear hbf hr))
      refine behind_ok ⟨H7f.out.duo, ?_⟩
      refine goes_last (i := 4) rfl (by kernel_rfl) (by kernel_rfl) ?_
      go_wp2_with fail
      have HBw : Hid (Below w.heap.size w wf) := Lib.hid (below_to HBq'.out HBf.out howq)
      obtain ⟨V, hV, hVb, hVk, hVr, -, -⟩ := stored_over HBw.out (Nat.le_refl _) HZf.out HRf.out
      rw [← hV]
      clear hV
      obtain ⟨y0, y1, y2, y3⟩ := hVk.four4
      refine behind_ok ?_
      refine goes_last (i := 5) rfl (by kernel_rfl) (by kernel_rfl) ?_
      go_wp2_with fail
      refine behind_ok (goes_done (by kernel_rfl) ?_)
      go_wp2
      refine bodyPost_ret (v := .tuple #[.agg #[.bool q1, .slice C1 i1 e1, .bool q2, .slice C2 i2 e2], .int .i64 0]) (by simp [results, Tryz.results48, go_sem, y0, y1, y2, y3]) rfl ?_
      exact ⟨hVb, k, HR.out, hks, q1, C1, i1, e1, q2, C2, i2, e2, rfl, hVr⟩
    · obtain ⟨i, rfl⟩ : ∃ i, j = i + 1 := ⟨j - 1, by omega⟩
      have hz : ((i + 1 : Nat) : Int) - 1 = (i : Int) := by omega
      rw [hz]
      have e0 : decide ((i : Int) ≥ 0) = true := decide_eq_true (by omega)
      have hp := Nat.two_pow_pos i
      have hks : k + 2 ^ i + 2 ^ i ≤ 9007199254740992 := by have := HS.out.small; rw [Nat.pow_succ] at this; omega
      go_upto_region 8 with fail
      obtain ⟨q, hq⟩ : ∃ q, 2 ^ i = q := ⟨_, rfl⟩
      have HMO : Hid ((k + q) * (k + q) ≤ N → SrchR N i (k + q)) := Lib.hid (by rw [← hq]; exact HS.out.more)
      have HSM : Hid (¬ (k + q) * (k + q) ≤ N → SrchR N i k) := Lib.hid (by rw [← hq]; exact HS.out.same)
      rw [hq] at hks hp
      have hqi : (2 : Int) ^ i = (q : Int) := by rw [← hq]; push_cast; rfl
      have hqw : IntKind.i64.wrap (q : Int) = (q : Int) := IntWalk.i64_in _ (by omega)
      clear HS hz e0 hq
      have HC : Hid ((fun w' : World => w'.cell? ⟨wq.heap.size + 1, 0, none⟩ = some (.bool s) ∧ w'.cell? ⟨wq.heap.size + 1, 1, none⟩ = some (.slice A n c)) wo.drew) := Lib.hid H7o.out.duo
      have HSA : Hid (∀ (w' : World) o, (fun w' : World => w'.cell? ⟨wq.heap.size + 1, 0, none⟩ = some (.bool s) ∧ w'.cell? ⟨wq.heap.size + 1, 1, none⟩ = some (.slice A n c)) w' → (fun w' : World => w'.cell? ⟨wq.heap.size + 1, 0, none⟩ = some (.bool s) ∧ w'.cell? ⟨wq.heap.size + 1, 1, none⟩ = some (.slice A n c)) (w'.alloc o)) := Lib.hid (by
        rintro w' o ⟨z0, z1⟩
        exact ⟨alloc_keep _ z0, alloc_keep _ z1⟩)
      have HZ0 : Hid (wq.heap.size + 2 ≤ wo.heap.size) := Lib.hid (by have := H7o.out.lt; omega)
      refine region_goes (n := 7) (fun w' => w'.cell? ⟨wq.heap.size + 1, 0, none⟩ = some (.bool s) ∧ w'.cell? ⟨wq.heap.size + 1, 1, none⟩ = some (.slice A n c)) [6] (by kernel_rfl) rfl ?_
      refine goes_takeE (i := 0) (E := [6]) (v := .agg #[.bool s, .slice A n c]) rfl (by kernel_rfl) rfl (fun _ _ _ h => h) (by intro w' hw'; obtain ⟨z0, z1⟩ := hw'; go_simp) HC.out ?_
      refine goes_takeE (i := 1) (E := [2, 6]) (v := .int .i64 (i : Int)) rfl (by kernel_rfl) rfl (fun _ _ _ h => h) (by intro w' hw'; obtain ⟨z0, z1⟩ := hw'; go_simp) HC.out ?_
      refine goes_takeE (i := 2) (E := [6]) (v := .int .i64 (q : Int)) rfl (by kernel_rfl) rfl (fun _ _ _ h => h) (by intro w' hw'; go_simp) HC.out ?_
      have HBd := Lib.hid HBo.out.drew
      have HGd := Lib.hid HGo.out.drew
      have H7d := Lib.hid H7o.out.drew
      have HZd := Lib.hid HZo.out.drew
      have HJd := Lib.hid (HJo.out.later (Below.refl _ _).drew)
      refine flo1_begin (vA := u9) (iA := 5) (D0 := wq.heap.size + 2) (t := 24) (z := #[.bool false, .slice none 0 0]) (some 9) (by kernel_rfl) HC.out ?_
      refine flo1_call (i := 3) rfl rfl rfl (by intro a w; go_simp) (by intro _ _; kernel_rfl) HSA.out (by have := H7d.out.lt; omega) (by decide) (by kernel_rfl) (by kernel_rfl) ?_
      intro vA ur hur hsr
      go_wp2_with (go_at_call 14; go_loud (with_reducible refine (rofH (q : Int) _ (by omega) (by omega)).mono ?_; rintro e wr ⟨hbr, sr, Ar, nr, cr, rfl, ir⟩))
      have hstr := below_to hur hbr hur.size
      have HBr := Lib.hid (below_to HBd.out hstr HBd.out.size); have HGr := Lib.hid (HGd.out.below hstr HGd.out.lt); have H7r := Lib.hid (H7d.out.below hstr H7d.out.lt); have HZr := Lib.hid (HZd.out.below hstr HZd.out.lt); have HJr := Lib.hid (HJd.out.later hstr)
      have HIr := Lib.hid ir
      have HSr := Lib.hid hstr
      refine behind_ok ⟨H7r.out.duo, hbr, by kernel_rfl, ?_⟩
      clear hbr ir hstr hsr hur
      refine flo1_call (i := 4) rfl rfl rfl (by intro a w; go_simp) (by intro _ _; kernel_rfl) HSA.out (by have := H7r.out.lt; omega) (by decide) (by kernel_rfl) (by kernel_rfl) ?_
      intro vA um hum hsm
      go_wp2_with (go_at_call 16; go_loud (with_reducible refine (rsumH HJr.out HIr.out hum hum (by omega) (by omega)).mono ?_; rintro e wm ⟨hbm, sm, Am, nm, cm, rfl, im⟩))
      have hstm := below_to hum hbm hum.size
      have HBm := Lib.hid (below_to HBr.out hstm HBr.out.size); have HGm := Lib.hid (HGr.out.below hstm HGr.out.lt); have H7m := Lib.hid (H7r.out.below hstm H7r.out.lt); have HZm := Lib.hid (HZr.out.below hstm HZr.out.lt); have HJm := Lib.hid (HJr.out.later hstm)
      have HIm := Lib.hid im
      have HSm := Lib.hid hstm
      refine behind_ok ⟨H7m.out.duo, hbm, by kernel_rfl, ?_⟩
      clear hbm im hstm hsm hum
      refine flo1_end rfl rfl (by intro a w; go_simp) (by intro _ _; kernel_rfl) HSA.out (by have := H7m.out.lt; omega) (by kernel_rfl) ?_
      intro g9 u hu hg9 hk9 hsu
      have HBu := Lib.hid (below_to HBm.out hu HBm.out.size); have HGu := Lib.hid (HGm.out.below hu HGm.out.lt); have H7u := Lib.hid (H7m.out.below hu H7m.out.lt); have HZu := Lib.hid (HZm.out.below hu HZm.out.lt); have HJu := Lib.hid (HJm.out.later hu)
      have him := HIm.out.later hu
      have hkq : (k : Int) + (q : Int) = ((k + q : Nat) : Int) := by push_cast; rfl
      rw [hkq] at him
      obtain ⟨kq, hkq2⟩ : ∃ kq, k + q = kq := ⟨_, rfl⟩
      rw [hkq2] at him HMO HSM hks
      have him := him.tight (K' := 2) (by rw [W_2p]; omega)
      obtain ⟨r0, r1⟩ := hk9.duo
      have f0 := hk9.frozen 0
      have f1 := hk9.frozen 1
      clear hu hsu hkq hkq2 HBd HGd H7d HZd HJd HBr HGr H7r HZr HJr HIr HSr HC HSA hqi hqw HZ0
      refine goes_last (i := 6) rfl (by kernel_rfl) (by kernel_rfl) ?_
      go_wp2_with fail
      obtain ⟨V, hV⟩ : ∃ V, V = ((u.setCell ⟨g9, 0, none⟩ (.bool sm)).setCell ⟨g9, 1, none⟩ (.slice Am nm cm)) := ⟨_, rfl⟩
      have HBV : Hid (Below wq.heap.size wq V) := Lib.hid (by rw [hV]; exact (HBu.out.setCell (show wq.heap.size ≤ g9 by omega) _).setCell (show wq.heap.size ≤ g9 by omega) _)
      have H9V : Hid (Bk V g9 24 #[.bool sm, .slice Am nm cm]) := Lib.hid (by rw [hV]; exact hk9.duoset _ _)
      have HGV : Hid (Bk V wq.heap.size 24 #[.bool sq, .slice Aq nq cq]) := Lib.hid (by rw [hV]; exact HGu.out.two (by omega) _ _)
      have H7V : Hid (Bk V (wq.heap.size + 1) 24 #[.bool s, .slice A n c]) := Lib.hid (by rw [hV]; exact H7u.out.two (by omega) _ _)
      have HZV : Hid (Bk V w.heap.size 41 #[.bool false, .slice none 0 0, .bool false, .slice none 0 0]) := Lib.hid (by rw [hV]; exact HZu.out.two (by omega) _ _)
      have HJV : Hid (IntH V s A n c (k : Int) 2 true) := Lib.hid (by rw [hV]; exact HJu.out.past hk9 _ _)
      have HIV : Hid (IntH V sm Am nm cm (kq : Int) 2 true) := Lib.hid (by rw [hV]; exact him.past hk9 _ _)
      rw [← hV]
      refine behind_ok (goes_done (by kernel_rfl) ?_)
      clear hV him hk9 r0 r1 f0 f1 HBu HGu H7u HZu HJu HBm HGm H7m HZm HJm HIm HSm HBo HGo H7o HZo HIo HJo
      go_upto_region 9 with fail
      obtain ⟨C, hC⟩ : ∃ C, cmpI ((kq : Int) * (kq : Int)) (N : Int) = C := ⟨_, rfl⟩
      obtain ⟨bb, hbb⟩ : ∃ bb, decide (C ≤ 0) = bb := ⟨_, rfl⟩
      have HBB : Hid (decide (kq * kq ≤ N) = bb) := Lib.hid (by rw [← srch_test, hC]; exact hbb)
      have HC9 : Hid ((fun w' : World => (w'.cell? ⟨g9, 0, none⟩ = some (.bool sm) ∧ w'.cell? ⟨g9, 1, none⟩ = some (.slice Am nm cm)) ∧ w'.cell? ⟨wq.heap.size, 0, none⟩ = some (.bool sq) ∧ w'.cell? ⟨wq.heap.size, 1, none⟩ = some (.slice Aq nq cq)) V.drew) := Lib.hid ⟨H9V.out.duo, HGV.out.duo⟩
      refine region_goes (n := 6) (fun w' => (w'.cell? ⟨g9, 0, none⟩ = some (.bool sm) ∧ w'.cell? ⟨g9, 1, none⟩ = some (.slice Am nm cm)) ∧ w'.cell? ⟨wq.heap.size, 0, none⟩ = some (.bool sq) ∧ w'.cell? ⟨wq.heap.size, 1, none⟩ = some (.slice Aq nq cq)) [] (by kernel_rfl) rfl ?_
      refine goes_takeE (i := 0) (E := []) (v := .agg #[.bool sm, .slice Am nm cm]) rfl (by kernel_rfl) rfl (fun _ _ _ h => h) (by intro w' hw'; obtain ⟨⟨z0, z1⟩, z2, z3⟩ := hw'; go_simp) HC9.out ?_
      refine goes_takeE (i := 1) (E := []) (v := .agg #[.bool sm, .slice Am nm cm]) rfl (by kernel_rfl) rfl (fun _ _ _ h => h) (by intro w' hw'; obtain ⟨⟨z0, z1⟩, z2, z3⟩ := hw'; go_simp) HC9.out ?_
      refine goes_takeE (i := 3) (E := []) (v := .agg #[.bool sq, .slice Aq nq cq]) rfl (by kernel_rfl) rfl (fun _ _ _ h => h) (by intro w' hw'; obtain ⟨⟨z0, z1⟩, z2, z3⟩ := hw'; go_simp) HC9.out ?_
      refine goes_call (i := 2) rfl (by kernel_rfl) ?_
      go_wp2_with (go_at_call 20; go_loud (with_reducible refine (rprodH HIV.out HIV.out (Below.refl _ _).drew (Below.refl _ _).drew (by omega) (by omega)).mono ?_; rintro e wx ⟨hbx, sx, Ax, nx, cx, rfl, ix⟩; have hbx := below_drw hbx; have HBx := Lib.hid (below_to HBV.out hbx HBV.out.size); have HGx := Lib.hid (HGV.out.below hbx HGV.out.lt); have H7x := Lib.hid (H7V.out.below hbx H7V.out.lt); have HZx := Lib.hid (HZV.out.below hbx HZV.out.lt); have HJx := Lib.hid (HJV.out.later hbx); have H9x := Lib.hid (H9V.out.below hbx H9V.out.lt); have HIx := Lib.hid ix; have HIW := Lib.hid (HIV.out.later hbx); clear hbx ix))
      refine behind_ok ⟨⟨H9x.out.duo, HGx.out.duo⟩, ?_⟩
      refine goes_call (i := 4) rfl (by kernel_rfl) ?_
      go_wp2_with (go_at_call 24; go_loud (with_reducible refine (rcmpH HIx.out HIN.out (Below.refl _ _) HBx.out (by omega) (by omega) hC).mono ?_; rintro e wy ⟨hby, rfl⟩; have HBy := Lib.hid (below_to HBx.out hby HBx.out.size); have HGy := Lib.hid (HGx.out.below hby HGx.out.lt); have H7y := Lib.hid (H7x.out.below hby H7x.out.lt); have HZy := Lib.hid (HZx.out.below hby HZx.out.lt); have HJy := Lib.hid (HJx.out.later hby); have H9y := Lib.hid (H9x.out.below hby H9x.out.lt); have HIy := Lib.hid (HIW.out.later hby); clear hby))
      refine behind_ok ⟨⟨H9y.out.duo, HGy.out.duo⟩, ?_⟩
      have HC9 : Hid ((fun w' : World => (w'.cell? ⟨g9, 0, none⟩ = some (.bool sm) ∧ w'.cell? ⟨g9, 1, none⟩ = some (.slice Am nm cm)) ∧ w'.cell? ⟨wq.heap.size, 0, none⟩ = some (.bool sq) ∧ w'.cell? ⟨wq.heap.size, 1, none⟩ = some (.slice Aq nq cq)) wy) := Lib.hid ⟨H9y.out.duo, HGy.out.duo⟩
      refine goes_takeE (i := 5) (E := []) (v := .bool bb) rfl (by kernel_rfl) rfl (fun _ _ _ h => h) (by intro w' hw'; obtain ⟨⟨z0, z1⟩, z2, z3⟩ := hw'; go_simp) HC9.out ?_
      refine goes_done (by kernel_rfl) ?_
      clear HC9 hbb hC HBV H9V HGV H7V HZV HJV HIV HBx H9x HGx H7x HZx HJx HIx HIW
      cases bb
      · have hf : ¬ kq * kq ≤ N := of_decide_eq_false HBB.out
        have HN := Lib.hid (HSM.out hf)
        clear hf HBB HMO HSM
        simp only [List.getElem_toArray, List.getElem_cons_succ, List.getElem_cons_zero, Act.put, List.setIfInBounds_toArray, List.set_cons_succ, List.set_cons_zero]
        go_wp2
        go_roundw
        case rel => exact ⟨i, k, s, A, n, c, rfl, by omega, HN, HGy.out, H7y.out, HJy.out, HBy.out⟩
        case measure => simp [intOf]
      · have hf : kq * kq ≤ N := of_decide_eq_true HBB.out
        have HN := Lib.hid (HMO.out hf)
        clear hf HBB HMO HSM
        obtain ⟨r0, r1⟩ := H9y.out.duo
        obtain ⟨r2, r3⟩ := H7y.out.duo
        have f0 := H7y.out.frozen 0
        have f1 := H7y.out.frozen 1
        simp only [List.getElem_toArray, List.getElem_cons_succ, List.getElem_cons_zero, Act.put, List.setIfInBounds_toArray, List.set_cons_succ, List.set_cons_zero]
        go_wp2
        go_roundw
        case rel => exact ⟨i, kq, sm, Am, nm, cm, rfl, by omega, HN, HGy.out.two (by omega) _ _, H7y.out.duoset _ _, HIy.out.past H7y.out _ _, (HBy.out.setCell (show wq.heap.size ≤ wq.heap.size + 1 by omega) _).setCell (show wq.heap.size ≤ wq.heap.size + 1 by omega) _⟩
        case measure => simp [intOf]
end Go.Proofs.YtfjcbmdeaiaeiaaGreat

/- The walk of ExactRootBelow. -/
namespace Go.Proofs.YtfjcbmdeaiaeiaaGreat
open Go Go.RowKit

/-- Same of two fractions that are made of nothing. -/
theorem sameNil (w : World) : Calls Tryz.prog 28 #[.agg #[.bool false, .slice none 0 0, .bool false, .slice none 0 0], .agg #[.bool false, .slice none 0 0, .bool false, .slice none 0 0]] w fun e w' => Below w.heap.size w w' ∧ e = .returned (.bool true) := by
  go_enter Tryz.func28, Tryz.ntmps28
  go_wp2_with (first
    | (go_at_call 12; with_reducible refine (sameH (IntH.nil_ w) (IntH.nil_ w) ?_ ?_ rfl).mono ?_; (focus (exact (by repeat (first | with_reducible exact Below.refl _ _ | with_reducible assumption | with_reducible refine Below.drew ?_ | with_reducible refine Below.drewN ?_ _ | with_reducible refine Below.alloc2 ?_ _ | with_reducible refine Below.alloc ?_ (by first | omega | (simp <;> omega)) _ | with_reducible refine Below.setCell ?_ (by first | omega | (simp <;> omega)) _ | with_reducible refine Below.step2 (by with_reducible assumption) ?_ | with_reducible refine Below.step (by with_reducible assumption) ?_ (by first | omega | (simp <;> omega)))))); (focus (exact (by repeat (first | with_reducible exact Below.refl _ _ | with_reducible assumption | with_reducible refine Below.drew ?_ | with_reducible refine Below.drewN ?_ _ | with_reducible refine Below.alloc2 ?_ _ | with_reducible refine Below.alloc ?_ (by first | omega | (simp <;> omega)) _ | with_reducible refine Below.setCell ?_ (by first | omega | (simp <;> omega)) _ | with_reducible refine Below.step2 (by with_reducible assumption) ?_ | with_reducible refine Below.step (by with_reducible assumption) ?_ (by first | omega | (simp <;> omega)))))); rintro e wn ⟨hbn, rfl⟩; have kx : Bk wn w.heap.size 41 #[.bool false, .slice none 0 0, .bool false, .slice none 0 0] := (by repeat (first | with_reducible assumption | with_reducible exact Bk.at_ (by first | (simp; done) | omega) | with_reducible refine Bk.alloc ?_ _ | with_reducible refine Bk.drew ?_ | with_reducible refine Bk.drewN ?_ _ | with_reducible refine Bk.step (by with_reducible assumption) ?_ (by first | omega | (simp <;> omega)))); have ky : Bk wn (w.heap.size + 1) 41 #[.bool false, .slice none 0 0, .bool false, .slice none 0 0] := (by repeat (first | with_reducible assumption | with_reducible exact Bk.at_ (by first | (simp; done) | omega) | with_reducible refine Bk.alloc ?_ _ | with_reducible refine Bk.drew ?_ | with_reducible refine Bk.drewN ?_ _ | with_reducible refine Bk.step (by with_reducible assumption) ?_ (by first | omega | (simp <;> omega)))); obtain ⟨⟨x0, x1, x2, x3⟩, -⟩ := kx.quad; obtain ⟨⟨y0, y1, y2, y3⟩, -⟩ := ky.quad; have ozn := hbn.size; (try simp at ozn); have ox := kx.lt; have oy := ky.lt)
    | (go_at_call 12; with_reducible refine (sameH (IntH.nil_ w) (IntH.nil_ w) ?_ ?_ rfl).mono ?_; (focus (exact (by repeat (first | with_reducible exact Below.refl _ _ | with_reducible assumption | with_reducible refine Below.drew ?_ | with_reducible refine Below.drewN ?_ _ | with_reducible refine Below.alloc2 ?_ _ | with_reducible refine Below.alloc ?_ (by first | omega | (simp <;> omega)) _ | with_reducible refine Below.setCell ?_ (by first | omega | (simp <;> omega)) _ | with_reducible refine Below.step2 (by with_reducible assumption) ?_ | with_reducible refine Below.step (by with_reducible assumption) ?_ (by first | omega | (simp <;> omega)))))); (focus (exact (by repeat (first | with_reducible exact Below.refl _ _ | with_reducible assumption | with_reducible refine Below.drew ?_ | with_reducible refine Below.drewN ?_ _ | with_reducible refine Below.alloc2 ?_ _ | with_reducible refine Below.alloc ?_ (by first | omega | (simp <;> omega)) _ | with_reducible refine Below.setCell ?_ (by first | omega | (simp <;> omega)) _ | with_reducible refine Below.step2 (by with_reducible assumption) ?_ | with_reducible refine Below.step (by with_reducible assumption) ?_ (by first | omega | (simp <;> omega)))))); rintro e wm ⟨hbm, rfl⟩))
  go_ret
  exact ⟨(by repeat (first | with_reducible exact Below.refl _ _ | with_reducible assumption | with_reducible refine Below.drew ?_ | with_reducible refine Below.drewN ?_ _ | with_reducible refine Below.alloc2 ?_ _ | with_reducible refine Below.alloc ?_ (by first | omega | (simp <;> omega)) _ | with_reducible refine Below.setCell ?_ (by first | omega | (simp <;> omega)) _ | with_reducible refine Below.step2 (by with_reducible assumption) ?_ | with_reducible refine Below.step (by with_reducible assumption) ?_ (by first | omega | (simp <;> omega)))), rfl⟩
set_option maxRecDepth 100000 in
set_option maxHeartbeats 1600000 in
theorem lawBelow_any (n d : Int) (w : World) (n1 : -9223372036854775808 ≤ n) (n2 : n ≤ 9223372036854775807) (d1 : -9223372036854775808 ≤ d) (d2 : d ≤ 9223372036854775807) :
    Calls Tryz.prog 7 #[.int .i64 n, .int .i64 d] w fun e w' => Below w.heap.size w w' ∧ e = .returned (.bool true) := by
  by_cases hbad : n < 0 ∨ d < 1 ∨ d > 1000000
  · go_enter Tryz.func7, Tryz.ntmps7
    go_upto_region 3 with (first
      | (go_at_call 47; with_reducible refine (rootBelow_bad n d _ hbad).mono ?_; rintro e wb ⟨hbb, rfl⟩)
      | (go_at_call 48; with_reducible refine (refRootBelow_bad n d _ hbad).mono ?_; rintro e wc ⟨hbc, rfl⟩; have hk5 : Bk wc wb.heap.size 41 #[.bool false, .slice none 0 0, .bool false, .slice none 0 0] := (by repeat (first | with_reducible assumption | with_reducible exact Bk.at_ (by first | (simp; done) | omega) | with_reducible refine Bk.alloc ?_ _ | with_reducible refine Bk.drew ?_ | with_reducible refine Bk.drewN ?_ _ | with_reducible refine Bk.step (by with_reducible assumption) ?_ (by first | omega | (simp <;> omega)))); have hbwc : Below w.heap.size w wc := (by repeat (first | with_reducible exact Below.refl _ _ | with_reducible assumption | with_reducible refine Below.drew ?_ | with_reducible refine Below.drewN ?_ _ | with_reducible refine Below.alloc2 ?_ _ | with_reducible refine Below.alloc ?_ (by first | omega | (simp <;> omega)) _ | with_reducible refine Below.setCell ?_ (by first | omega | (simp <;> omega)) _ | with_reducible refine Below.step2 (by with_reducible assumption) ?_ | with_reducible refine Below.step (by with_reducible assumption) ?_ (by first | omega | (simp <;> omega))))))
    obtain ⟨V, hV⟩ : ∃ V, V = (wc.alloc (.cells #[.bool false, .slice none 0 0, .bool false, .slice none 0 0] 41)) := ⟨_, rfl⟩
    have hbV : Below w.heap.size w V := by rw [hV]; exact (by repeat (first | with_reducible exact Below.refl _ _ | with_reducible assumption | with_reducible refine Below.drew ?_ | with_reducible refine Below.drewN ?_ _ | with_reducible refine Below.alloc2 ?_ _ | with_reducible refine Below.alloc ?_ (by first | omega | (simp <;> omega)) _ | with_reducible refine Below.setCell ?_ (by first | omega | (simp <;> omega)) _ | with_reducible refine Below.step2 (by with_reducible assumption) ?_ | with_reducible refine Below.step (by with_reducible assumption) ?_ (by first | omega | (simp <;> omega))))
    have h7 : Bk V wc.heap.size 41 #[.bool false, .slice none 0 0, .bool false, .slice none 0 0] := by rw [hV]; exact (by repeat (first | with_reducible assumption | with_reducible exact Bk.at_ (by first | (simp; done) | omega) | with_reducible refine Bk.alloc ?_ _ | with_reducible refine Bk.drew ?_ | with_reducible refine Bk.drewN ?_ _ | with_reducible refine Bk.step (by with_reducible assumption) ?_ (by first | omega | (simp <;> omega))))
    have h5 : Bk V wb.heap.size 41 #[.bool false, .slice none 0 0, .bool false, .slice none 0 0] := by rw [hV]; exact (by repeat (first | with_reducible assumption | with_reducible exact Bk.at_ (by first | (simp; done) | omega) | with_reducible refine Bk.alloc ?_ _ | with_reducible refine Bk.drew ?_ | with_reducible refine Bk.drewN ?_ _ | with_reducible refine Bk.step (by with_reducible assumption) ?_ (by first | omega | (simp <;> omega))))
    rw [← hV]
    clear hV hbb hbc hk5 hbwc
    obtain ⟨x0, x1, x2, x3⟩ := h5.four4
    obtain ⟨y0, y1, y2, y3⟩ := h7.four4
    clear h5 h7
    go_wp2_with (first
      | (go_at_call 28; with_reducible refine (sameNil _).mono ?_; rintro e wd ⟨hbd, rfl⟩)
      | (go_at_call 9; with_reducible refine (awake_true _).mono ?_; rintro e wz ⟨hbz, rfl⟩))
    go_ret
    exact ⟨(by repeat (first | with_reducible exact Below.refl _ _ | with_reducible assumption | with_reducible refine Below.drew ?_ | with_reducible refine Below.drewN ?_ _ | with_reducible refine Below.alloc2 ?_ _ | with_reducible refine Below.alloc ?_ (by first | omega | (simp <;> omega)) _ | with_reducible refine Below.setCell ?_ (by first | omega | (simp <;> omega)) _ | with_reducible refine Below.step2 (by with_reducible assumption) ?_ | with_reducible refine Below.step (by with_reducible assumption) ?_ (by first | omega | (simp <;> omega)))), rfl⟩
  obtain ⟨a, rfl⟩ : ∃ a : Nat, n = (a : Int) := ⟨n.toNat, by omega⟩
  obtain ⟨q, rfl⟩ : ∃ q : Nat, d = (q : Int) := ⟨d.toNat, by omega⟩
  have hq1 : 1 ≤ q := by omega
  have hq2 : q ≤ 1000000 := by omega
  have ha : a < 9223372036854775808 := by omega
  clear hbad
  go_enter Tryz.func7, Tryz.ntmps7
  go_upto_region 3 with (first
    | (go_at_call 47; with_reducible refine (rootBelow_ok a q _ ha hq1 hq2).mono ?_; rintro e wb ⟨hbb, k, hk, hk2, s1, A1, n1', c1, s2, A2, n2', c2, rfl, hr5⟩)
    | (go_at_call 48; with_reducible refine (refRootBelow_ok a q _ ha hq1 hq2).mono ?_; rintro e wc ⟨hbc, k', hk', hk2', s3, A3, n3, c3, s4, A4, n4, c4, rfl, hr7⟩; obtain rfl : k = k' := isRoot_one hk hk'))
  have hk5 : Bk wc wb.heap.size 41 #[.bool s1, .slice A1 n1' c1, .bool s2, .slice A2 n2' c2] := (by repeat (first | with_reducible assumption | with_reducible exact Bk.at_ (by first | (simp; done) | omega) | with_reducible refine Bk.alloc ?_ _ | with_reducible refine Bk.drew ?_ | with_reducible refine Bk.drewN ?_ _ | with_reducible refine Bk.step (by with_reducible assumption) ?_ (by first | omega | (simp <;> omega))))
  have hbwc : Below w.heap.size w wc := (by repeat (first | with_reducible exact Below.refl _ _ | with_reducible assumption | with_reducible refine Below.drew ?_ | with_reducible refine Below.drewN ?_ _ | with_reducible refine Below.alloc2 ?_ _ | with_reducible refine Below.alloc ?_ (by first | omega | (simp <;> omega)) _ | with_reducible refine Below.setCell ?_ (by first | omega | (simp <;> omega)) _ | with_reducible refine Below.step2 (by with_reducible assumption) ?_ | with_reducible refine Below.step (by with_reducible assumption) ?_ (by first | omega | (simp <;> omega))))
  have hr5c := hr5.later (show Below wb.heap.size wb wc from below_to ((Below.refl _ _).alloc (Nat.le_refl _) _) hbc (by simp))
  obtain ⟨V, hV⟩ : ∃ V, V = (wc.alloc (.cells #[.bool s3, .slice A3 n3 c3, .bool s4, .slice A4 n4 c4] 41)) := ⟨_, rfl⟩
  have hcV : Below wc.heap.size wc V := by rw [hV]; exact (by repeat (first | with_reducible exact Below.refl _ _ | with_reducible assumption | with_reducible refine Below.drew ?_ | with_reducible refine Below.drewN ?_ _ | with_reducible refine Below.alloc2 ?_ _ | with_reducible refine Below.alloc ?_ (by first | omega | (simp <;> omega)) _ | with_reducible refine Below.setCell ?_ (by first | omega | (simp <;> omega)) _ | with_reducible refine Below.step2 (by with_reducible assumption) ?_ | with_reducible refine Below.step (by with_reducible assumption) ?_ (by first | omega | (simp <;> omega))))
  have h7 : Bk V wc.heap.size 41 #[.bool s3, .slice A3 n3 c3, .bool s4, .slice A4 n4 c4] := by rw [hV]; exact (by repeat (first | with_reducible assumption | with_reducible exact Bk.at_ (by first | (simp; done) | omega) | with_reducible refine Bk.alloc ?_ _ | with_reducible refine Bk.drew ?_ | with_reducible refine Bk.drewN ?_ _ | with_reducible refine Bk.step (by with_reducible assumption) ?_ (by first | omega | (simp <;> omega))))
  have HBV : Hid (Below w.heap.size w V) := Lib.hid (below_to hbwc hcV hbwc.size)
  have H5V : Hid (Bk V wb.heap.size 41 #[.bool s1, .slice A1 n1' c1, .bool s2, .slice A2 n2' c2]) := Lib.hid (hk5.below hcV hk5.lt)
  have HRV := Lib.hid (hr5c.later hcV)
  have HR7 := Lib.hid (hr7.later hcV)
  rw [← hV]
  have owb := hbb.size
  clear hV hbb hbc hk5 hbwc hr5 hr5c hr7 hcV hk' hk2'
  obtain ⟨x0, x1, x2, x3⟩ := H5V.out.four4
  obtain ⟨y0, y1, y2, y3⟩ := h7.four4
  clear h7
  have hq0 : 0 < q := by omega
  have hqne : (q : Int) ≠ 0 := by omega
  go_upto_region 8 with (first
    | (go_at_call 28; with_reducible refine (sameRH HRV.out HR7.out (Below.refl _ _) (Below.refl _ _) rfl).mono ?_; rintro e wd ⟨hbd, rfl⟩; have HBd := Lib.hid (below_to HBV.out hbd HBV.out.size); have H5d := Lib.hid (H5V.out.below hbd H5V.out.lt); have HRd := Lib.hid (HRV.out.later hbd); clear hbd x0 x1 x2 x3 y0 y1 y2 y3)
    | (go_at_call 26; go_loud (with_reducible refine (ratioH 1 (q : Int) _ (by omega) (by omega) (by omega) (by omega) hqne).mono ?_; rintro e we ⟨hbe, s5, A5, n5, c5, s6, A6, n6, c6, rfl, hre⟩; have HBe := Lib.hid (below_to HBd.out hbe HBd.out.size); have H5e := Lib.hid (H5d.out.below hbe H5d.out.lt); have HRe := Lib.hid (HRd.out.later hbe); have HS := Lib.hid hre; clear hbe hre)))
  obtain ⟨T, hT⟩ : ∃ T, T = (we.alloc (.cells #[.bool s5, .slice A5 n5 c5, .bool s6, .slice A6 n6 c6] 41)) := ⟨_, rfl⟩
  have heT : Below we.heap.size we T := by rw [hT]; exact (by repeat (first | with_reducible exact Below.refl _ _ | with_reducible assumption | with_reducible refine Below.drew ?_ | with_reducible refine Below.drewN ?_ _ | with_reducible refine Below.alloc2 ?_ _ | with_reducible refine Below.alloc ?_ (by first | omega | (simp <;> omega)) _ | with_reducible refine Below.setCell ?_ (by first | omega | (simp <;> omega)) _ | with_reducible refine Below.step2 (by with_reducible assumption) ?_ | with_reducible refine Below.step (by with_reducible assumption) ?_ (by first | omega | (simp <;> omega))))
  have h9 : Bk T we.heap.size 41 #[.bool s5, .slice A5 n5 c5, .bool s6, .slice A6 n6 c6] := by rw [hT]; exact (by repeat (first | with_reducible assumption | with_reducible exact Bk.at_ (by first | (simp; done) | omega) | with_reducible refine Bk.alloc ?_ _ | with_reducible refine Bk.drew ?_ | with_reducible refine Bk.drewN ?_ _ | with_reducible refine Bk.step (by with_reducible assumption) ?_ (by first | omega | (simp <;> omega))))
  rw [← hT]
  have HBT := Lib.hid (below_to HBe.out heT HBe.out.size); have H5T := Lib.hid (H5e.out.below heT H5e.out.lt); have HRT := Lib.hid (HRe.out.later heT)
  have HS2 := Lib.hid (HS.out.later heT)
  obtain ⟨x0, x1, x2, x3⟩ := H5T.out.four4
  obtain ⟨y0, y1, y2, y3⟩ := h9.four4
  clear hT heT h9 HS HBV H5V HRV HR7 HBd H5d HRd HBe H5e HRe
  go_upto_region 9 with (go_at_call 33; go_loud (with_reducible refine (addH HRT.out HS2.out (Below.refl _ _) (Below.refl _ _) (by omega) (by omega)).mono ?_; rintro e wf ⟨hbf, s7, A7, n7, c7, s8, A8, n8, c8, rfl, hrf⟩; have HBf := Lib.hid (below_to HBT.out hbf HBT.out.size); have H5f := Lib.hid (H5T.out.below hbf H5T.out.lt); have HRf := Lib.hid (HRT.out.later hbf); rw [root_next] at hrf; have HM := Lib.hid hrf; clear hbf hrf x0 x1 x2 x3 y0 y1 y2 y3))
  obtain ⟨G, hG⟩ : ∃ G, G = (wf.alloc (.cells #[.bool s7, .slice A7 n7 c7, .bool s8, .slice A8 n8 c8] 41)) := ⟨_, rfl⟩
  have hfG : Below wf.heap.size wf G := by rw [hG]; exact (by repeat (first | with_reducible exact Below.refl _ _ | with_reducible assumption | with_reducible refine Below.drew ?_ | with_reducible refine Below.drewN ?_ _ | with_reducible refine Below.alloc2 ?_ _ | with_reducible refine Below.alloc ?_ (by first | omega | (simp <;> omega)) _ | with_reducible refine Below.setCell ?_ (by first | omega | (simp <;> omega)) _ | with_reducible refine Below.step2 (by with_reducible assumption) ?_ | with_reducible refine Below.step (by with_reducible assumption) ?_ (by first | omega | (simp <;> omega))))
  have h11 : Bk G wf.heap.size 41 #[.bool s7, .slice A7 n7 c7, .bool s8, .slice A8 n8 c8] := by rw [hG]; exact (by repeat (first | with_reducible assumption | with_reducible exact Bk.at_ (by first | (simp; done) | omega) | with_reducible refine Bk.alloc ?_ _ | with_reducible refine Bk.drew ?_ | with_reducible refine Bk.drewN ?_ _ | with_reducible refine Bk.step (by with_reducible assumption) ?_ (by first | omega | (simp <;> omega))))
  rw [← hG]
  have HBG := Lib.hid (below_to HBf.out hfG HBf.out.size); have H5G := Lib.hid (H5f.out.below hfG H5f.out.lt); have HRG := Lib.hid (HRf.out.later hfG)
  have HEG := Lib.hid (HM.out.later hfG)
  have HTG := Lib.hid h11
  have owf := HBf.out.size
  have o5f := H5f.out.lt
  clear hG hfG h11 HM HBT H5T HRT HS2 HBf H5f HRf
  have HBo := Lib.hid HBG.out.drew
  have H5o := Lib.hid H5G.out.drew
  have HTo := Lib.hid HTG.out.drew
  have HRo := Lib.hid (HRG.out.later (Below.refl _ _).drew)
  have HEo := Lib.hid (HEG.out.later (Below.refl _ _).drew)
  have HC4 : Hid ((fun w' : World => w'.cell? ⟨wb.heap.size, 0, none⟩ = some (.bool s1) ∧ w'.cell? ⟨wb.heap.size, 1, none⟩ = some (.slice A1 n1' c1) ∧ w'.cell? ⟨wb.heap.size, 2, none⟩ = some (.bool s2) ∧ w'.cell? ⟨wb.heap.size, 3, none⟩ = some (.slice A2 n2' c2)) G.drew) := Lib.hid H5o.out.four4
  have HSA : Hid (∀ (w' : World) o, (fun w' : World => w'.cell? ⟨wb.heap.size, 0, none⟩ = some (.bool s1) ∧ w'.cell? ⟨wb.heap.size, 1, none⟩ = some (.slice A1 n1' c1) ∧ w'.cell? ⟨wb.heap.size, 2, none⟩ = some (.bool s2) ∧ w'.cell? ⟨wb.heap.size, 3, none⟩ = some (.slice A2 n2' c2)) w' → (fun w' : World => w'.cell? ⟨wb.heap.size, 0, none⟩ = some (.bool s1) ∧ w'.cell? ⟨wb.heap.size, 1, none⟩ = some (.slice A1 n1' c1) ∧ w'.cell? ⟨wb.heap.size, 2, none⟩ = some (.bool s2) ∧ w'.cell? ⟨wb.heap.size, 3, none⟩ = some (.slice A2 n2' c2)) (w'.alloc o)) := Lib.hid (by
    rintro w' o ⟨z0, z1, z2, z3⟩
    exact ⟨alloc_keep _ z0, alloc_keep _ z1, alloc_keep _ z2, alloc_keep _ z3⟩)
  refine region_goes (n := 6) (fun w' => w'.cell? ⟨wb.heap.size, 0, none⟩ = some (.bool s1) ∧ w'.cell? ⟨wb.heap.size, 1, none⟩ = some (.slice A1 n1' c1) ∧ w'.cell? ⟨wb.heap.size, 2, none⟩ = some (.bool s2) ∧ w'.cell? ⟨wb.heap.size, 3, none⟩ = some (.slice A2 n2' c2)) [5] (by kernel_rfl) rfl ?_
  refine goes_takeE (i := 0) (E := [5]) (v := .agg #[.bool s1, .slice A1 n1' c1, .bool s2, .slice A2 n2' c2]) rfl (by kernel_rfl) rfl (fun _ _ _ h => h) (by intro w' hw'; obtain ⟨z0, z1, z2, z3⟩ := hw'; go_simp) HC4.out ?_
  refine goes_takeE (i := 1) (E := [5]) (v := .int .i64 (q : Int)) rfl (by kernel_rfl) rfl (fun _ _ _ h => h) (by intro w' hw'; obtain ⟨z0, z1, z2, z3⟩ := hw'; go_simp) HC4.out ?_
  refine flo1_begin (vA := undef) (iA := 4) (D0 := wf.heap.size + 1) (t := 41) (z := #[.bool false, .slice none 0 0, .bool false, .slice none 0 0]) (some 12) (by kernel_rfl) HC4.out ?_
  refine flo1_call (i := 2) rfl rfl rfl (by intro a w; go_simp) (by intro _ _; kernel_rfl) HSA.out (by have := HTo.out.lt; omega) (by decide) (by kernel_rfl) (by kernel_rfl) ?_
  intro vA uh huh hsh
  go_wp2_with (go_at_call 29; go_loud (with_reducible refine (wholePH (q : Int) _ (by omega) (by omega)).mono ?_; rintro e wh ⟨hbh, s9, A9, n9, c9, s0, A0, n0, c0, rfl, hrh⟩))
  have hst := below_to huh hbh huh.size
  have HBh := Lib.hid (below_to HBo.out hst HBo.out.size); have H5h := Lib.hid (H5o.out.below hst H5o.out.lt); have HRh := Lib.hid (HRo.out.later hst); have HTh := Lib.hid (HTo.out.below hst HTo.out.lt); have HEh := Lib.hid (HEo.out.later hst)
  have HWh := Lib.hid hrh
  refine behind_ok ⟨H5h.out.four4, hbh, by kernel_rfl, ?_⟩
  clear hbh hrh hsh huh hst
  refine flo1_call (i := 3) rfl rfl rfl (by intro a w; go_simp) (by intro _ _; kernel_rfl) HSA.out (by have := HTh.out.lt; omega) (by decide) (by kernel_rfl) (by kernel_rfl) ?_
  intro vB ui hui hsi
  go_wp2_with (go_at_call 37; go_loud (with_reducible refine (mulH HRh.out HWh.out hui hui (by omega) (by omega)).mono ?_; rintro e wi ⟨hbi, t1, B1, m1, e1, t2, B2, m2, e2, rfl, hri⟩))
  have hst := below_to hui hbi hui.size
  have HBi := Lib.hid (below_to HBh.out hst HBh.out.size); have H5i := Lib.hid (H5h.out.below hst H5h.out.lt); have HRi := Lib.hid (HRh.out.later hst); have HTi := Lib.hid (HTh.out.below hst HTh.out.lt); have HEi := Lib.hid (HEh.out.later hst)
  rw [root_times hq0] at hri
  have HWi := Lib.hid hri
  refine behind_ok ⟨H5i.out.four4, hbi, by kernel_rfl, ?_⟩
  clear hbi hri hsi hui hst
  refine flo1_end rfl rfl (by intro a w; go_simp) (by intro _ _; kernel_rfl) HSA.out (by have := HTi.out.lt; omega) (by kernel_rfl) ?_
  intro g12 u hu hg12 hk12 hsu
  have HBu := Lib.hid (below_to HBi.out hu HBi.out.size); have H5u := Lib.hid (H5i.out.below hu H5i.out.lt); have HRu := Lib.hid (HRi.out.later hu); have HTu := Lib.hid (HTi.out.below hu HTi.out.lt); have HEu := Lib.hid (HEi.out.later hu)
  have hwu := HWi.out.later hu
  obtain ⟨x0, x1, x2, x3⟩ := hk12.four4
  have f0 := hk12.frozen 0
  have f1 := hk12.frozen 1
  have f2 := hk12.frozen 2
  have f3 := hk12.frozen 3
  clear hu hsu HC4 HSA HBo H5o HTo HRo HEo HBh H5h HTh HRh HEh HWh HBi H5i HTi HRi HEi HWi HBG H5G HTG HRG HEG
  refine goes_last (i := 5) rfl (by kernel_rfl) (by kernel_rfl) ?_
  go_wp2_with fail
  have hle := owb
  have hT12 := HTu.out.lt
  have h5lt := H5u.out.lt
  obtain ⟨U, hU, hUb, hUk, hUr, hUo, hUs⟩ := stored_over HBu.out (show w.heap.size ≤ g12 by omega) hk12 hwu
  rw [← hU]
  refine behind_ok (goes_done (by kernel_rfl) ?_)
  have HRU := Lib.hid (HRu.out.stored hk12 (fun p hp => by rw [hU]; exact set_four (o1 := 0) (o2 := 1) (o3 := 2) (o4 := 3) _ _ _ _ p hp) hUs)
  have HEU := Lib.hid (HEu.out.stored hk12 (fun p hp => by rw [hU]; exact set_four (o1 := 0) (o2 := 1) (o3 := 2) (o4 := 3) _ _ _ _ p hp) hUs)
  have HWU := Lib.hid hUr
  have HBU := Lib.hid hUb
  have HKU := Lib.hid hUk
  have H5U := Lib.hid (hUo _ _ _ (show wb.heap.size ≠ g12 by omega) H5u.out)
  have HTU := Lib.hid (hUo _ _ _ (show wf.heap.size ≠ g12 by omega) HTu.out)
  clear hU hUb hUk hUr hUo hUs f0 f1 f2 f3 x0 x1 x2 x3 hk12 hwu HBu H5u HTu HRu HEu
  obtain ⟨C1, hC1⟩ : ∃ C1, cmpQ (Rat.divInt (k : Int) (q : Int) * Rat.divInt (k : Int) (q : Int)) ((a : Int) : Rat) = C1 := ⟨_, rfl⟩
  have hle := root_le hq0 hk
  rw [hC1] at hle
  have e1 : decide (C1 ≤ 0) = true := decide_eq_true hle
  have hC2 := root_gt hq0 hk
  have HC1 := Lib.hid hC1
  have HC2 := Lib.hid hC2
  clear hC1 hle hC2
  have hden : ((((k : Int) : Rat).den : Nat) : Int) = 1 := by rw [Rat.den_intCast]; rfl
  obtain ⟨x0, x1, x2, x3⟩ := H5U.out.four4; obtain ⟨y0, y1, y2, y3⟩ := HTU.out.four4; obtain ⟨z0, z1, z2, z3⟩ := HKU.out.four4
  go_upto_region 10 with fail
  go_region_held3 (fun w' => w'.cell? ⟨wb.heap.size, 0, none⟩ = some (.bool s1) ∧ w'.cell? ⟨wb.heap.size, 1, none⟩ = some (.slice A1 n1' c1) ∧ w'.cell? ⟨wb.heap.size, 2, none⟩ = some (.bool s2) ∧ w'.cell? ⟨wb.heap.size, 3, none⟩ = some (.slice A2 n2' c2) ∧ (w'.cell? ⟨wf.heap.size, 0, none⟩ = some (.bool s7) ∧ w'.cell? ⟨wf.heap.size, 1, none⟩ = some (.slice A7 n7 c7) ∧ w'.cell? ⟨wf.heap.size, 2, none⟩ = some (.bool s8) ∧ w'.cell? ⟨wf.heap.size, 3, none⟩ = some (.slice A8 n8 c8)) ∧ w'.cell? ⟨g12, 2, none⟩ = some (.bool t2) ∧ w'.cell? ⟨g12, 3, none⟩ = some (.slice B2 m2 e2)) (go_keep) (first
    | (go_at_call 9; with_reducible refine (awake_true _).mono ?_; rintro e wz ⟨hbz, rfl⟩; have HBz := Lib.hid (below_to HBt.out hbz HBt.out.size); have HBz := Lib.hid (below_to HBt.out hbz HBt.out.size); have H5z := Lib.hid (H5t.out.below hbz H5t.out.lt); have HRz := Lib.hid (HRt.out.later hbz); have HTz := Lib.hid (HTt.out.below hbz HTt.out.lt); have HEz := Lib.hid (HEt.out.later hbz); have HKz := Lib.hid (HKt.out.below hbz HKt.out.lt); have HWz := Lib.hid (HWt.out.later hbz); clear x0 x1 x2 x3 y0 y1 y2 y3 z0 z1 z2 z3; obtain ⟨x0, x1, x2, x3⟩ := H5z.out.four4; obtain ⟨y0, y1, y2, y3⟩ := HTz.out.four4; obtain ⟨z0, z1, z2, z3⟩ := HKz.out.four4; clear hbz)
    | (go_at_call 12; with_reducible refine (sameH HWs.out.parts2.2 HGs.out (Below.refl _ _) (Below.refl _ _) hden).mono ?_; rintro e wt ⟨hbt, rfl⟩; have HBt := Lib.hid (below_to HBs.out hbt HBs.out.size); have H5t := Lib.hid (H5s.out.below hbt H5s.out.lt); have HRt := Lib.hid (HRs.out.later hbt); have HTt := Lib.hid (HTs.out.below hbt HTs.out.lt); have HEt := Lib.hid (HEs.out.later hbt); have HKt := Lib.hid (HKs.out.below hbt HKs.out.lt); have HWt := Lib.hid (HWs.out.later hbt); clear x0 x1 x2 x3 y0 y1 y2 y3 z0 z1 z2 z3; obtain ⟨x0, x1, x2, x3⟩ := H5t.out.four4; obtain ⟨y0, y1, y2, y3⟩ := HTt.out.four4; obtain ⟨z0, z1, z2, z3⟩ := HKt.out.four4; have HGt := hq0; clear hbt)
    | (go_at_call 14; with_reducible refine (rofH 1 _ (by omega) (by omega)).mono ?_; rintro e ws ⟨hbs, so, Ao, no, co, rfl, ho⟩; have HBs := Lib.hid (below_to HBr.out hbs HBr.out.size); have H5s := Lib.hid (H5r.out.below hbs H5r.out.lt); have HRs := Lib.hid (HRr.out.later hbs); have HTs := Lib.hid (HTr.out.below hbs HTr.out.lt); have HEs := Lib.hid (HEr.out.later hbs); have HKs := Lib.hid (HKr.out.below hbs HKr.out.lt); have HWs := Lib.hid (HWr.out.later hbs); clear x0 x1 x2 x3 y0 y1 y2 y3 z0 z1 z2 z3; obtain ⟨x0, x1, x2, x3⟩ := H5s.out.four4; obtain ⟨y0, y1, y2, y3⟩ := HTs.out.four4; obtain ⟨z0, z1, z2, z3⟩ := HKs.out.four4; have HGs := Lib.hid ho; clear hbs ho)
    | (go_at_call 41; with_reducible refine (cmpRH HGm2.out HGp.out (Below.refl _ _) (Below.refl _ _) (by omega) (by omega) HC2.out).mono ?_; rintro e wr ⟨hbr, rfl⟩; have HBr := Lib.hid (below_to HBp.out hbr HBp.out.size); have H5r := Lib.hid (H5p.out.below hbr H5p.out.lt); have HRr := Lib.hid (HRp.out.later hbr); have HTr := Lib.hid (HTp.out.below hbr HTp.out.lt); have HEr := Lib.hid (HEp.out.later hbr); have HKr := Lib.hid (HKp.out.below hbr HKp.out.lt); have HWr := Lib.hid (HWp.out.later hbr); clear x0 x1 x2 x3 y0 y1 y2 y3 z0 z1 z2 z3; obtain ⟨x0, x1, x2, x3⟩ := H5r.out.four4; obtain ⟨y0, y1, y2, y3⟩ := HTr.out.four4; obtain ⟨z0, z1, z2, z3⟩ := HKr.out.four4; have HGr := hq0; clear hbr)
    | (go_at_call 29; with_reducible refine (wholePH (a : Int) _ (by omega) (by omega)).mono ?_; rintro e wp ⟨hbp, p1, P1, p2, p3, p4, P4, p5, p6, rfl, hp⟩; have HBp := Lib.hid (below_to HBm.out hbp HBm.out.size); have H5p := Lib.hid (H5m.out.below hbp H5m.out.lt); have HRp := Lib.hid (HRm.out.later hbp); have HTp := Lib.hid (HTm.out.below hbp HTm.out.lt); have HEp := Lib.hid (HEm.out.later hbp); have HKp := Lib.hid (HKm.out.below hbp HKm.out.lt); have HWp := Lib.hid (HWm.out.later hbp); clear x0 x1 x2 x3 y0 y1 y2 y3 z0 z1 z2 z3; obtain ⟨x0, x1, x2, x3⟩ := H5p.out.four4; obtain ⟨y0, y1, y2, y3⟩ := HTp.out.four4; obtain ⟨z0, z1, z2, z3⟩ := HKp.out.four4; have HGp := Lib.hid hp; have HGm2 := Lib.hid (HGm.out.later hbp); clear hbp hp)
    | (go_at_call 37; with_reducible refine (mulH HEl.out HEl.out (Below.refl _ _) (Below.refl _ _) (by omega) (by omega)).mono ?_; rintro e wm ⟨hbm, r1, R1, r2, r3, r4, R4, r5, r6, rfl, hm⟩; have HBm := Lib.hid (below_to HBl.out hbm HBl.out.size); have H5m := Lib.hid (H5l.out.below hbm H5l.out.lt); have HRm := Lib.hid (HRl.out.later hbm); have HTm := Lib.hid (HTl.out.below hbm HTl.out.lt); have HEm := Lib.hid (HEl.out.later hbm); have HKm := Lib.hid (HKl.out.below hbm HKl.out.lt); have HWm := Lib.hid (HWl.out.later hbm); clear x0 x1 x2 x3 y0 y1 y2 y3 z0 z1 z2 z3; obtain ⟨x0, x1, x2, x3⟩ := H5m.out.four4; obtain ⟨y0, y1, y2, y3⟩ := HTm.out.four4; obtain ⟨z0, z1, z2, z3⟩ := HKm.out.four4; have HGm := Lib.hid hm; clear hbm hm)
    | (go_at_call 41; with_reducible refine (cmpRH HGj2.out HGk.out (Below.refl _ _) (Below.refl _ _) (by omega) (by omega) HC1.out).mono ?_; rintro e wl ⟨hbl, rfl⟩; have HBl := Lib.hid (below_to HBk.out hbl HBk.out.size); have H5l := Lib.hid (H5k.out.below hbl H5k.out.lt); have HRl := Lib.hid (HRk.out.later hbl); have HTl := Lib.hid (HTk.out.below hbl HTk.out.lt); have HEl := Lib.hid (HEk.out.later hbl); have HKl := Lib.hid (HKk.out.below hbl HKk.out.lt); have HWl := Lib.hid (HWk.out.later hbl); clear x0 x1 x2 x3 y0 y1 y2 y3 z0 z1 z2 z3; obtain ⟨x0, x1, x2, x3⟩ := H5l.out.four4; obtain ⟨y0, y1, y2, y3⟩ := HTl.out.four4; obtain ⟨z0, z1, z2, z3⟩ := HKl.out.four4; have HGl := hq0; clear hbl)
    | (go_at_call 29; with_reducible refine (wholePH (a : Int) _ (by omega) (by omega)).mono ?_; rintro e wk ⟨hbk, v1, V1, v2, v3, v4, V4, v5, v6, rfl, hv⟩; have HBk := Lib.hid (below_to HBj.out hbk HBj.out.size); have H5k := Lib.hid (H5j.out.below hbk H5j.out.lt); have HRk := Lib.hid (HRj.out.later hbk); have HTk := Lib.hid (HTj.out.below hbk HTj.out.lt); have HEk := Lib.hid (HEj.out.later hbk); have HKk := Lib.hid (HKj.out.below hbk HKj.out.lt); have HWk := Lib.hid (HWj.out.later hbk); clear x0 x1 x2 x3 y0 y1 y2 y3 z0 z1 z2 z3; obtain ⟨x0, x1, x2, x3⟩ := H5k.out.four4; obtain ⟨y0, y1, y2, y3⟩ := HTk.out.four4; obtain ⟨z0, z1, z2, z3⟩ := HKk.out.four4; have HGk := Lib.hid hv; have HGj2 := Lib.hid (HGj.out.later hbk); clear hbk hv)
    | (go_at_call 37; with_reducible refine (mulH HRU.out HRU.out (Below.refl _ _).drew (Below.refl _ _).drew (by omega) (by omega)).mono ?_; rintro e wj ⟨hbj0, u1, U1, u2, u3, u4, U4, u5, u6, rfl, hm⟩; have hbj := below_drw hbj0; have HBj := Lib.hid (below_to HBU.out hbj HBU.out.size); have H5j := Lib.hid (H5U.out.below hbj H5U.out.lt); have HRj := Lib.hid (HRU.out.later hbj); have HTj := Lib.hid (HTU.out.below hbj HTU.out.lt); have HEj := Lib.hid (HEU.out.later hbj); have HKj := Lib.hid (HKU.out.below hbj HKU.out.lt); have HWj := Lib.hid (HWU.out.later hbj); clear x0 x1 x2 x3 y0 y1 y2 y3 z0 z1 z2 z3; obtain ⟨x0, x1, x2, x3⟩ := H5j.out.four4; obtain ⟨y0, y1, y2, y3⟩ := HTj.out.four4; obtain ⟨z0, z1, z2, z3⟩ := HKj.out.four4; have HGj := Lib.hid hm; clear hbj hbj0 hm))
  go_wp2
  go_ret
  exact ⟨HBz.out, rfl⟩
end Go.Proofs.YtfjcbmdeaiaeiaaGreat

namespace Go.Proofs.YtfjcbmdeaiaeiaaGreat
open Go.ChangeShapes Go.WideShapes Go.ChangeAt Go.RowKit Go.Joins Go.Deep

set_option maxRecDepth 100000 in
/-- An argument that is a number. -/
theorem open_num1 {H : Type} {enc : TypeId × Value → H} {w : World} {v : Value} {d : DataW H} {ps : List MemPlace} {r : Reach} {b0 : Nat}
    (hv : Value.okWide Tryz.prog w r b0 3 v) (h : DataW.Trod enc Tryz.prog w 0 (fun _ => true) true 3 v d ps) : ∃ z : Int, v = .int .i64 z ∧ -9223372036854775808 ≤ z ∧ z ≤ 9223372036854775807 := by
  obtain ⟨fuel, hf⟩ := h
  obtain ⟨z, e1, _, hw⟩ := DataW.trod_int Tryz.underlying3 hf
  obtain ⟨x', rfl⟩ := okWide_int Tryz.underlying3 hv
  simp only [Lit.wf, Bool.and_eq_true, decide_eq_true_eq] at hw
  exact ⟨z, by simpa [Value.cells] using e1, hw.1, hw.2⟩
set_option maxRecDepth 100000 in
theorem below_lifted (os : Os) (started : os.Started) (H : Type) (enc : TypeId × Value → H) :
    ReturnsInHanded {} Tryz.checked os 7 .any (Rows.exactRootBelowSpec.pre6 enc Tryz.prog Tryz.f7 Rows.exactRootBelowRow.domain false) (Rows.exactRootBelowSpec.post enc Tryz.prog Tryz.f7 false true false false) := by
  refine returnsInHanded_of_change (C := Tryz.checked) Tryz.own started (by kernel_rfl) Tryz.func7
    (ChangeSpec.witness6 (enc := enc) (C := Tryz.checked) false ⟨#[], #[.int .i64 0, .int .i64 0], []⟩ 8 (by kernel_rfl) (by kernel_rfl) (by kernel_rfl) (by kernel_rfl)) ?_
  intro W base args ds gs before hval0 hW _ _
  have hval : ∀ (j : Nat) t v, Tryz.f7.params[j]? = some t → args[j]? = some v → Value.okWide Tryz.prog W .any base t v := hval0
  have hW' := hW
  obtain ⟨p, q, hA0, hV, rfl, _, _⟩ := hW
  have hA : DataW.TrodAll enc Tryz.prog W 0 (fun _ => true) true Tryz.f7.params.toList args.toList ds p := hA0
  rw [Tryz.params7] at hA hval
  obtain ⟨v0, v1, d0, d1, p0, p1, rfl, rfl, rfl, h0, h1⟩ := trodAll_two hA
  obtain ⟨rfl, rfl⟩ := trodVars_none hV
  obtain ⟨n, rfl, a1, a2⟩ := open_num1 (hval 0 _ v0 rfl rfl) h0
  obtain ⟨m, rfl, b1, b2⟩ := open_num1 (hval 1 _ v1 rfl rfl) h1
  refine (lawBelow_any n m W a1 a2 b1 b2).mono fun e W' ⟨hb, he⟩ => ?_
  subst he
  exact ⟨_, rfl, law_post (tb := 4) Tryz.laidOut (by kernel_rfl) (by kernel_rfl) Tryz.underlying4 rfl hW' rfl rfl rfl hb⟩

theorem below_holds : Rows.ExactRootBelowSaid :=
  OpenClaim.holds_of_wide 7 Tryz.f7 rfl rfl rfl rfl rfl rfl rfl ⟨rfl, rfl, rfl, rfl, rfl⟩ rfl rfl rfl rfl rfl (by kernel_rfl) Tryz.func7 (by kernel_rfl)
    (of_decide_eq_true (by kernel_rfl)) (by unfold Func.isWrapper; first | (rw [if_pos (by decide +kernel)]; kernel_rfl) | (rw [if_neg (by decide +kernel)]; exact ⟨rfl, rfl⟩))
    (fun os started H enc _ => below_lifted os started H enc)

end Go.Proofs.YtfjcbmdeaiaeiaaGreat
