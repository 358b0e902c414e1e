/- The walk of takeOff: one digit of a quotient, and what is left of the dividend. -/
import Derived.Test.YtfnibkodccfocaaGreatGuess
namespace Go.Proofs.YtfnibkodccfocaaGreat
open Go.RowKit

theorem knuth {k Ul U3 Vl V2 q : Nat} (hUl : Ul < k) (hVl : Vl < k) (hV2 : 4294967296 ≤ V2) (hU : Ul + k * U3 < (Vl + k * V2) * 4294967296) (hq : q ≤ 4294967295) (h1 : q * V2 ≤ U3) (h2 : q = 4294967295 ∨ U3 < (q + 1) * V2) :
    (q * (Vl + k * V2) ≤ Ul + k * U3 ∧ Ul + k * U3 < (q + 1) * (Vl + k * V2)) ∨ (1 ≤ q ∧ Ul + k * U3 < q * (Vl + k * V2) ∧ q * (Vl + k * V2) ≤ Ul + k * U3 + (Vl + k * V2)) := by
  have hlt : Ul + k * U3 < (q + 1) * (Vl + k * V2) := by
    rcases h2 with rfl | h2
    · rw [Nat.mul_comm (4294967295 + 1)]; exact hU
    · have a1 : k * (U3 + 1) ≤ k * ((q + 1) * V2) := Nat.mul_le_mul_left _ h2
      rw [Nat.mul_add (q + 1), Nat.mul_left_comm (q + 1)]
      rw [Nat.mul_add] at a1
      omega
  rcases Nat.lt_or_ge (Ul + k * U3) (q * (Vl + k * V2)) with h | h
  · refine .inr ⟨?_, h, ?_⟩
    · rcases Nat.eq_zero_or_pos q with h0 | h0
      · subst h0; rw [Nat.zero_mul] at h; omega
      · exact h0
    · have a1 : k * (q * V2) ≤ k * U3 := Nat.mul_le_mul_left _ h1
      have a2 : q * Vl ≤ 4294967296 * k := Nat.mul_le_mul (by omega) (by omega)
      have a3 : k * 4294967296 ≤ k * V2 := Nat.mul_le_mul_left _ hV2
      rw [Nat.mul_add, Nat.mul_left_comm q k]
      omega
  · exact .inl ⟨h, hlt⟩

/-- The guessed digit. -/
def gq (u0 T v0 v1 : Nat) : Nat := min 4294967295 ((u0 + 4294967296 * T) / (v0 + 4294967296 * v1))
theorem gq_of {q u0 T v0 v1 : Nat} (hv : 0 < v1) (h0 : q ≤ 4294967295) (h1 : q * (v0 + 4294967296 * v1) ≤ u0 + 4294967296 * T) (h2 : q = 4294967295 ∨ u0 + 4294967296 * T < (q + 1) * (v0 + 4294967296 * v1)) : q = gq u0 T v0 v1 := by
  unfold gq
  have a1 : q ≤ (u0 + 4294967296 * T) / (v0 + 4294967296 * v1) := (Nat.le_div_iff_mul_le (by omega)).2 h1
  rcases h2 with h2 | h2
  · omega
  · have a2 : (u0 + 4294967296 * T) / (v0 + 4294967296 * v1) < q + 1 := (Nat.div_lt_iff_lt_mul (by omega)).2 h2
    omega

theorem guess_any (g gv off offv c d u0 u1 u2 v0 v1 : Nat) (w : World) (hu0 : u0 < 4294967296) (hu1 : u1 < 4294967296) (hu2 : u2 ≤ v1) (hpos : 0 < v1) (hv0 : v0 < 4294967296) (hv1 : v1 < 4294967296)
    (c0 : w.cell? ⟨g, off, none⟩ = some (.int .u32 (u0 : Int))) (c1 : w.cell? ⟨g, off + 1, none⟩ = some (.int .u32 (u1 : Int))) (c2 : w.cell? ⟨g, off + 2, none⟩ = some (.int .u32 (u2 : Int)))
    (d0 : w.cell? ⟨gv, offv, none⟩ = some (.int .u32 (v0 : Int))) (d1 : w.cell? ⟨gv, offv + 1, none⟩ = some (.int .u32 (v1 : Int))) :
    Calls Tryz.prog 134 #[.slice (some ⟨g, off, none⟩) 3 c, .slice (some ⟨gv, offv, none⟩) 2 d] w fun e w' => e = .returned (.int .u32 ((gq u0 (u2 * 4294967296 + u1) v0 v1 : Nat) : Int)) ∧ ∃ k, w' = w.drewN k := by
  rcases Nat.lt_or_ge u2 v1 with h | h
  · exact (guess_lt g gv off offv c d u0 u1 u2 v0 v1 w hu0 hu1 h hv0 hv1 c0 c1 c2 d0 d1).mono fun e w' ⟨⟨q, he, a, b, cc⟩, hw⟩ => ⟨by rw [he, gq_of hpos a b cc], hw⟩
  · obtain rfl : u2 = v1 := by omega
    exact (guess_eq g gv off offv c d u0 u1 v0 u2 w hu0 hu1 hv0 hv1 c0 c1 c2 d0 d1).mono fun e w' ⟨⟨q, he, a, b, cc⟩, hw⟩ => ⟨by rw [he, gq_of hpos a b cc], hw⟩

/-- What takeOff leaves: P in place of the m + 1 limbs at off, P = U - q V, P < V. -/
def TakeR (g off m : Nat) (O b : List Nat) (w : World) (e : Ending) (w' : World) : Prop :=
  ∃ (q : Nat) (P : List Nat), e = .returned (.int .u32 (q : Int)) ∧ q < 4294967296 ∧ P.length = m + 1 ∧ Buf w' g 75 (O.take off ++ P ++ O.drop (off + m + 1)) ∧
    val P + q * val b = val ((O.drop off).take (m + 1)) ∧ val P < val b ∧ Only g w w'

theorem top2 {l : List Nat} {k a b : Nat} (ha : l[k]? = some a) (hb : l[k + 1]? = some b) : val (l.take (k + 2)) = val (l.take k) + W k * (a + 4294967296 * b) := by
  rw [val_take_get l hb, val_take_get l ha, W_succ, Nat.mul_comm 4294967296, Nat.mul_assoc, Nat.mul_add]; omega
theorem top3 {l : List Nat} {k a b c : Nat} (ha : l[k]? = some a) (hb : l[k + 1]? = some b) (hc : l[k + 2]? = some c) : val (l.take (k + 3)) = val (l.take k) + W k * (a + 4294967296 * (b + 4294967296 * c)) := by
  rw [val_take_get l hc, top2 ha hb, show W (k + 2) = W k * (4294967296 * 4294967296) from W_add k 2, Nat.mul_assoc, Nat.add_assoc, ← Nat.mul_add]
  congr 2
  omega

set_option maxHeartbeats 1000000 in
theorem takeOff_any (g off c k d gv : Nat) (O V : List Nat) (w : World) (hO0 : Buf w g 75 O) (hoff : off + k + 3 ≤ O.length) (hb0 : Buf w gv 75 V) (hne : gv ≠ g) (hmV : k + 2 ≤ V.length) (hcm : k + 3 ≤ c) (hmd : k + 2 ≤ d) (hm : k ≤ 1073741820)
    (htop : 0 < V.getD (k + 1) 0) (hUV : val ((O.drop off).take (k + 3)) < val (V.take (k + 2)) * 4294967296) :
    Calls Tryz.prog 120 #[.slice (some ⟨g, off, none⟩) (k + 3) c, .slice (some ⟨gv, 0, none⟩) (k + 2) d] w (TakeR g off (k + 2) O (V.take (k + 2)) w) := by
  obtain ⟨u0, hu0, c0⟩ := hO0.cell (k := off + k) (by omega)
  obtain ⟨u1, hu1, c1⟩ := hO0.cell (k := off + k + 1) (by omega)
  obtain ⟨u2, hu2, c2⟩ := hO0.cell (k := off + k + 2) (by omega)
  obtain ⟨v0, hv0, d0⟩ := hb0.cell (k := k) (by omega)
  obtain ⟨v1, hv1, d1⟩ := hb0.cell (k := k + 1) (by omega)
  have bu0 := hO0.bd u0 (List.mem_of_getElem? hu0)
  have bu1 := hO0.bd u1 (List.mem_of_getElem? hu1)
  have bv0 := hb0.bd v0 (List.mem_of_getElem? hv0)
  have bv1 := hb0.bd v1 (List.mem_of_getElem? hv1)
  have eU := top3 (l := O.drop off) (k := k) (by rw [List.getElem?_drop]; exact hu0) (by rw [List.getElem?_drop]; exact hu1) (by rw [List.getElem?_drop]; exact hu2)
  have eV := top2 hv0 hv1
  have hpos : 0 < v1 := by rw [List.getD_eq_getElem?_getD, hv1] at htop; exact htop
  have hUl : val ((O.drop off).take k) < W k := by
    have := val_lt ((hO0.bd.drop off).take k)
    rwa [List.length_take, List.length_drop, Nat.min_eq_left (by omega)] at this
  have hVl : val (V.take k) < W k := by
    have := val_lt (hb0.bd.take k)
    rwa [List.length_take, Nat.min_eq_left (by omega)] at this
  have hWk := W_pos k
  have hu2v : u2 ≤ v1 := by
    rcases Nat.lt_or_ge v1 u2 with h | h
    · exfalso
      rw [eU, eV] at hUV
      have a1 : W k * (4294967296 * (4294967296 * (v1 + 1))) ≤ W k * (u0 + 4294967296 * (u1 + 4294967296 * u2)) := Nat.mul_le_mul_left _ (by omega)
      have a2 : W k * (v0 + 4294967296 * v1 + 1) ≤ W k * (4294967296 * (v1 + 1)) := Nat.mul_le_mul_left _ (by omega)
      rw [Nat.mul_add (W k) (v0 + 4294967296 * v1), Nat.mul_one] at a2
      rw [Nat.mul_left_comm] at a1
      generalize W k * (4294967296 * (v1 + 1)) = X at a1 a2
      generalize W k * (v0 + 4294967296 * v1) = Y at a2 hUV
      generalize W k * (u0 + 4294967296 * (u1 + 4294967296 * u2)) = Z at a1 hUV
      omega
    · exact h
  have hbU : u0 + 4294967296 * (u1 + 4294967296 * u2) = u0 + 4294967296 * (u2 * 4294967296 + u1) := by omega
  have hq0 : gq u0 (u2 * 4294967296 + u1) v0 v1 ≤ 4294967295 := Nat.min_le_left _ _
  have hq1 : gq u0 (u2 * 4294967296 + u1) v0 v1 * (v0 + 4294967296 * v1) ≤ u0 + 4294967296 * (u1 + 4294967296 * u2) := by
    rw [hbU]
    exact (Nat.le_div_iff_mul_le (by omega)).1 (Nat.min_le_right _ _)
  have hq2 : gq u0 (u2 * 4294967296 + u1) v0 v1 = 4294967295 ∨ u0 + 4294967296 * (u1 + 4294967296 * u2) < (gq u0 (u2 * 4294967296 + u1) v0 v1 + 1) * (v0 + 4294967296 * v1) := by
    rw [hbU]
    unfold gq
    rcases Nat.lt_or_ge ((u0 + 4294967296 * (u2 * 4294967296 + u1)) / (v0 + 4294967296 * v1)) 4294967295 with h | h
    · right
      rw [Nat.min_eq_right (Nat.le_of_lt h)]
      exact (Nat.div_lt_iff_lt_mul (by omega)).1 (Nat.lt_succ_self _)
    · left
      exact Nat.min_eq_left h
  have hdec := knuth hUl hVl (by omega) (by rw [eU, eV] at hUV; exact hUV) hq0 hq1 hq2
  rw [← eU, ← eV, show k + 3 = k + 2 + 1 from rfl] at hdec
  have hg : ∀ k2, Calls Tryz.prog 134 #[.slice (some ⟨g, off + k, none⟩) 3 (c - k), .slice (some ⟨gv, k, none⟩) 2 (d - k)] (w.drewN k2) fun e w' => e = .returned (.int .u32 ((gq u0 (u2 * 4294967296 + u1) v0 v1 : Nat) : Int)) ∧ ∃ n, w' = w.drewN n := by
    intro k2
    exact (guess_any g gv (off + k) k (c - k) (d - k) u0 u1 u2 v0 v1 (w.drewN k2) bu0 bu1 hu2v hpos bv0 bv1 c0 c1 c2 d0 d1).mono fun e w' ⟨he, n, hw⟩ => ⟨he, k2 + n, by rw [hw, World.drewN_drewN]⟩
  have hVlt := val_lt (hb0.bd.take (k + 2))
  rw [List.length_take, Nat.min_eq_left (by omega)] at hVlt
  clear hq1 hq2 hu2v hpos hUl hVl hWk eU eV hUV htop hbU c0 c1 c2 d0 d1 hu0 hu1 hu2 hv0 hv1 bu0 bu1 bv0 bv1
  generalize gq u0 (u2 * 4294967296 + u1) v0 v1 = Q at hdec hg hq0
  have HDEC := Lib.hid hdec
  have HG := Lib.hid hg
  have hoff' := Lib.hid hoff
  have hmV' := Lib.hid hmV
  have HVlt := Lib.hid hVlt
  clear hdec hg hoff hmV hVlt
  go_enter Tryz.func120, Tryz.ntmps120
  go_wp2
  go_quiet ((go_at_call 134; exact HG.out _))
  go_wp2_with fail
  have hsub := subtractTimes_any g off c (k + 2) d Q gv O V (w.drewN nq) (hO0.drewN nq) hoff'.out (hb0.drewN nq) hne hmV'.out (by omega) (by omega) hmd (by omega)
  refine hsub.mono ?_
  clear hsub
  rintro e w1 ⟨f, P, rfl, hP, hO1, hv1, hon1⟩
  have hPb : Bd P := fun x hx => hO1.bd x (by simp [hx])
  have hPlt := val_lt hPb
  rw [hP] at hPlt
  have hon : Only g w w1 := (Only.refl g w).drewN nq |>.trans hon1
  rcases HDEC.out with ⟨a1, a2⟩ | ⟨a0, a1, a2⟩
  · obtain rfl : f = false := by
      cases f
      · rfl
      · simp only [if_true, Nat.mul_one] at hv1; omega
    simp only [Bool.false_eq_true, if_false, Nat.mul_zero, Nat.add_zero] at hv1
    have HV := Lib.hid hv1
    have HP := Lib.hid hP
    have hlt : val P < val (V.take (k + 2)) := by
      rw [Nat.add_mul, Nat.one_mul] at a2; omega
    have HLT := Lib.hid hlt
    clear hv1 hP hPlt a1 a2 hlt hon1
    go_wp2
    go_ret
    exact ⟨Q, P, rfl, by omega, HP.out, hO1, HV.out, HLT.out, hon⟩
  · obtain rfl : f = true := by
      cases f
      · simp only [Bool.false_eq_true, if_false, Nat.mul_zero, Nat.add_zero] at hv1; omega
      · rfl
    obtain ⟨q, rfl⟩ : ∃ q, Q = q + 1 := ⟨Q - 1, by omega⟩
    simp only [if_true, Nat.mul_one] at hv1
    have hl1 : (O.take off).length = off := by rw [List.length_take]; have := hoff'.out; omega
    have hl2 : (O.take off ++ P ++ O.drop (off + (k + 2) + 1)).length = O.length := by
      rw [List.length_append, List.length_append, hl1, hP, List.length_drop]; have := hoff'.out; omega
    have hsame : ((O.take off ++ P ++ O.drop (off + (k + 2) + 1)).drop off).take (k + 2 + 1) = P := by
      rw [List.append_assoc, List.drop_left' hl1, List.take_left' hP]
    have hadd := addBack_any g off c (k + 2) d gv _ V w1 hO1 (by rw [hl2]; exact hoff'.out) (hon.buf hb0 hne) hne hmV'.out (by omega) hmd (by omega)
    have HADD := Lib.hid hadd
    have HV := Lib.hid hv1
    have HP := Lib.hid hP
    have HPLT := Lib.hid hPlt
    have H1 := Lib.hid hl1
    have HS := Lib.hid hsame
    have HA1 := Lib.hid a1
    have HA2 := Lib.hid a2
    clear hadd hv1 hP hPlt hl1 hl2 hsame a1 a2 hO1 hPb hon1
    go_wp2_with (go_at_call 136; refine HADD.out.mono ?_; rintro e w2 ⟨f2, P2, rfl, hf2, hP2, hO2, hv2, hon2⟩; have HP2 := Lib.hid hP2; have HV2 := Lib.hid hv2; clear hP2 hv2)
    go_ret
    have e1 := HV.out
    have e2 := HV2.out
    rw [HS.out] at e2
    have b1 := HA1.out
    have b2 := HA2.out
    have hPb2 : Bd P2 := fun x hx => hO2.bd x (by simp [hx])
    have c1 := val_lt hPb2
    rw [HP2.out] at c1
    have c2 := HVlt.out
    have c3 : W (k + 2) ≤ W (k + 2 + 1) := W_mono (by omega)
    rw [Nat.add_mul, Nat.one_mul] at e1 b1 b2
    have hf : f2 = 1 := by
      rcases Nat.eq_zero_or_pos f2 with h | h
      · subst h; rw [Nat.mul_zero] at e2; omega
      · omega
    subst hf
    refine ⟨q, P2, ret_int (by omega), by omega, HP2.out, ?_, by omega, by omega, hon.trans hon2⟩
    have e3 : (O.take off ++ P ++ O.drop (off + (k + 2) + 1)).take off = O.take off := by rw [List.append_assoc, List.take_left' H1.out]
    have e4 : (O.take off ++ P ++ O.drop (off + (k + 2) + 1)).drop (off + (k + 2) + 1) = O.drop (off + (k + 2) + 1) := by
      rw [List.drop_left' (by rw [List.length_append, H1.out, HP.out]; omega)]
    rwa [e3, e4] at hO2

end Go.Proofs.YtfnibkodccfocaaGreat
