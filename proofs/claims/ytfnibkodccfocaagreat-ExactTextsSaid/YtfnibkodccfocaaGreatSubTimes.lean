/- The walks of subtractTimes and addBack: a multiple of a number is taken off limbs in place; a number is added back. -/
import Derived.Test.YtfnibkodccfocaaGreatTimes
namespace Go.Proofs.YtfnibkodccfocaaGreat
open Go.RowKit

theorem sub_mul_col {k s c c' x y u P V B : Nat} (h : P + x * B = V + W k * c) (hs : s + x * y + c = u + 4294967296 * c') :
    (P + W k * s) + x * (B + W k * y) = (V + W k * u) + W (k + 1) * c' := by
  rw [W_succ, Nat.mul_comm 4294967296, Nat.mul_assoc]
  have h2 : W k * s + W k * (x * y) + W k * c = W k * u + W k * (4294967296 * c') := by
    rw [← Nat.mul_add, ← Nat.mul_add, hs, Nat.mul_add]
  rw [Nat.mul_add x, Nat.mul_left_comm x (W k) y]
  omega

/-- One limb of a difference with a product, as the machine makes it. -/
theorem sub_parts {x y c u : Nat} (hx : x < 4294967296) (hy : y < 4294967296) (hc : c ≤ 4294967295) (hu : u < 4294967296) :
    ∃ t0 t1 : Nat, ((x : Int) * y + c) % 4294967296 = t0 ∧ ((x : Int) * y + c) / 4294967296 = t1 ∧ t0 < 4294967296 ∧ t1 ≤ 4294967295 ∧ t0 + 4294967296 * t1 = x * y + c ∧
      (u < t0 → t1 + 1 ≤ 4294967295) := by
  have h1 : x * y ≤ 4294967295 * 4294967295 := Nat.mul_le_mul (by omega) (by omega)
  have e : (x : Int) * y + c = ((x * y + c : Nat) : Int) := by simp
  rw [e]
  exact ⟨(x * y + c) % 4294967296, (x * y + c) / 4294967296, by omega, by omega, by omega, by omega, by omega, by omega⟩

/-- What subtractTimes leaves. -/
def SubTimesR (g off m x : Nat) (O b : List Nat) (w : World) (e : Ending) (w' : World) : Prop :=
  ∃ (f : Bool) (P : List Nat), e = .returned (.bool f) ∧ P.length = m + 1 ∧ Buf w' g 75 (O.take off ++ P ++ O.drop (off + m + 1)) ∧
    val P + x * val b = val ((O.drop off).take (m + 1)) + W (m + 1) * (if f then 1 else 0) ∧ Only g w w'

set_option maxHeartbeats 1000000 in
theorem subtractTimes_any (g off c m d x gv : Nat) (O V : List Nat) (w : World) (hO0 : Buf w g 75 O) (hoff : off + m + 1 ≤ O.length) (hb0 : Buf w gv 75 V) (hne : gv ≠ g) (hmV : m ≤ V.length) (hx : x < 4294967296) (hcm : m + 1 ≤ c) (hmd : m ≤ d) (hm : m ≤ 1073741824) :
    Calls Tryz.prog 135 #[.slice (some ⟨g, off, none⟩) (m + 1) c, .slice (some ⟨gv, 0, none⟩) m d, .int .u32 (x : Int)] w (SubTimesR g off m x O (V.take m) w) := by
  have hoff' := Lib.hid hoff
  have hmV' := Lib.hid hmV
  clear hoff hmV
  go_enter Tryz.func135, Tryz.ntmps135
  go_wp2
  go_loopw [7, 14] (fun cv iv wr => ∃ (k r : Nat) (P : List Nat), k ≤ m ∧ iv = .int .i64 (k : Int) ∧ cv = .int .u64 (r : Int) ∧ r ≤ 4294967295 ∧ Hid (P.length = k) ∧ Buf wr g 75 (O.take off ++ P ++ O.drop (off + k)) ∧
      Hid (val P + x * val (V.take k) = val ((O.drop off).take k) + W k * r) ∧ Only g w wr)
    (fun _ iv _ => m - (intOf iv).toNat)
  case atStart =>
    exact ⟨0, 0, [], by omega, rfl, rfl, by omega, rfl, by simpa using hO0, by simp [Hid, val], Only.refl _ _⟩
  case round =>
    obtain ⟨k, r, P, hk, rfl, rfl, hr, hP, hO, hval, hB⟩ := hrel
    by_cases hlt : k < m
    · obtain ⟨y, hy, hc2⟩ := (hB.buf hb0 hne).cell (k := k) (by have := hmV'.out; omega)
      have hyb : y < 4294967296 := hb0.bd y (List.mem_of_getElem? hy)
      have hq : off + k < O.length := by have := hoff'.out; omega
      have hdrop : O.drop (off + k) = O[off + k] :: O.drop (off + k + 1) := drop_get (List.getElem?_eq_getElem hq)
      have hzb := hO0.bd.get hq
      have hzq : O[off + k]? = some O[off + k] := List.getElem?_eq_getElem hq
      generalize O[off + k] = z at hdrop hzb hzq
      have hol : (O.take off).length = off := by rw [List.length_take]; omega
      rw [hdrop] at hO
      have hget := get_mid (O.take off) P (O.drop (off + k + 1)) z
      rw [hol, hP.out] at hget
      obtain ⟨z', hz', hc3⟩ := hO.cell (k := off + k) (List.getElem?_eq_some_iff.1 hget).1
      obtain rfl : z = z' := by rw [hget] at hz'; exact Option.some.inj hz'
      have hf3 := hO.frozen (off + k)
      obtain ⟨hprod2, hprod3⟩ := prod_int hx hyb
      obtain ⟨t0, t1, e1, e2, ht0, ht1, hsum, hbor⟩ := sub_parts hx hyb hr hzb
      have HY := Lib.hid hy
      have HG := Lib.hid hget
      have HD := Lib.hid hdrop
      have HQ := Lib.hid hzq
      have HOL := Lib.hid hol
      have HS := Lib.hid hsum
      clear hy hget hz' hdrop hzq hol hsum
      by_cases hbr : z < t0
      · have hbr2 : t1 + 1 ≤ 4294967295 := hbor hbr
        clear hbor
        go_wp2
        obtain ⟨s, es, hs, hsz⟩ : ∃ s : Nat, ((z : Int) - t0) % 4294967296 = s ∧ s < 4294967296 ∧ s + t0 = z + 4294967296 * 1 := ⟨(((z : Int) - t0) % 4294967296).toNat, by omega, by omega, by omega⟩
        rw [es]
        go_roundw
        case rel =>
          refine ⟨k + 1, t1 + 1, P ++ [s], by omega, by go_num, by go_num, by omega, ?_, ?_, ?_, hB.setCell _ _⟩
          · show (P ++ [s]).length = k + 1
            rw [List.length_append, hP.out]; rfl
          · have h1 := hO.set_ (off + k) s hs
            have h2 := set_mid (O.take off) P (O.drop (off + k + 1)) z s
            rw [HOL.out, hP.out] at h2
            rw [h2] at h1
            exact h1
          · show val (P ++ [s]) + x * val (V.take (k + 1)) = val ((O.drop off).take (k + 1)) + W (k + 1) * (t1 + 1)
            rw [val_snoc, hP.out, val_take_get V HY.out, val_take_get (O.drop off) (x := z) (by rw [List.getElem?_drop]; exact HQ.out)]
            exact sub_mul_col hval.out (by have := HS.out; omega)
        case measure => simp [intOf]; omega
      · clear hbor
        go_wp2
        obtain ⟨s, es, hs, hsz⟩ : ∃ s : Nat, ((z : Int) - t0) = s ∧ s < 4294967296 ∧ s + t0 = z + 4294967296 * 0 := ⟨((z : Int) - t0).toNat, by omega, by omega, by omega⟩
        rw [es]
        go_roundw
        case rel =>
          refine ⟨k + 1, t1 + 0, P ++ [s], by omega, by go_num, rfl, by omega, ?_, ?_, ?_, hB.setCell _ _⟩
          · show (P ++ [s]).length = k + 1
            rw [List.length_append, hP.out]; rfl
          · have h1 := hO.set_ (off + k) s hs
            have h2 := set_mid (O.take off) P (O.drop (off + k + 1)) z s
            rw [HOL.out, hP.out] at h2
            rw [h2] at h1
            exact h1
          · show val (P ++ [s]) + x * val (V.take (k + 1)) = val ((O.drop off).take (k + 1)) + W (k + 1) * (t1 + 0)
            rw [val_snoc, hP.out, val_take_get V HY.out, val_take_get (O.drop off) (x := z) (by rw [List.getElem?_drop]; exact HQ.out)]
            exact sub_mul_col hval.out (by have := HS.out; omega)
        case measure => simp [intOf]; omega
    · obtain rfl : k = m := by omega
      have hq : off + k < O.length := by have := hoff'.out; omega
      have hdrop : O.drop (off + k) = O[off + k] :: O.drop (off + k + 1) := drop_get (List.getElem?_eq_getElem hq)
      have hzb := hO0.bd.get hq
      have hzq : O[off + k]? = some O[off + k] := List.getElem?_eq_getElem hq
      generalize O[off + k] = z at hdrop hzb hzq
      have hol : (O.take off).length = off := by rw [List.length_take]; omega
      rw [hdrop] at hO
      have hget := get_mid (O.take off) P (O.drop (off + k + 1)) z
      rw [hol, hP.out] at hget
      obtain ⟨z', hz', hc3⟩ := hO.cell (k := off + k) (List.getElem?_eq_some_iff.1 hget).1
      obtain rfl : z = z' := by rw [hget] at hz'; exact Option.some.inj hz'
      have hf3 := hO.frozen (off + k)
      have HQ := Lib.hid hzq
      have HOL := Lib.hid hol
      clear hget hz' hdrop hzq hol
      go_wp2
      go_ret
      obtain ⟨s, es, hs, hsz⟩ : ∃ s : Nat, ((z : Int) - r) % 4294967296 = s ∧ s < 4294967296 ∧ s + r = z + 4294967296 * (if decide (z < r) then 1 else 0) := by
        refine ⟨(((z : Int) - r) % 4294967296).toNat, by omega, by omega, ?_⟩
        by_cases h : z < r
        · simp only [h, decide_true, if_true]; omega
        · simp only [h, decide_false]; simp; omega
      rw [es]
      refine ⟨decide (z < r), P ++ [s], rfl, by rw [List.length_append, hP.out]; rfl, ?_, ?_, hB.setCell _ _⟩
      · have h1 := hO.set_ (off + k) s hs
        have h2 := set_mid (O.take off) P (O.drop (off + k + 1)) z s
        rw [HOL.out, hP.out] at h2
        rw [h2] at h1
        exact h1
      · rw [val_snoc, hP.out, val_take_get (O.drop off) (x := z) (by rw [List.getElem?_drop]; exact HQ.out)]
        have := sub_mul_col (y := 0) (x := x) (s := s) (u := z) (c' := if decide (z < r) = true then 1 else 0) hval.out (by omega)
        rw [Nat.mul_zero, Nat.add_zero] at this
        exact this

/-- What addBack leaves: the sum, but for a carry that is dropped. -/
def AddBackR (g off m : Nat) (O b : List Nat) (w : World) (e : Ending) (w' : World) : Prop :=
  ∃ (f : Nat) (P : List Nat), e = .returned (.tuple #[]) ∧ f ≤ 1 ∧ P.length = m + 1 ∧ Buf w' g 75 (O.take off ++ P ++ O.drop (off + m + 1)) ∧
    val P + W (m + 1) * f = val ((O.drop off).take (m + 1)) + val b ∧ Only g w w'

set_option maxHeartbeats 1000000 in
theorem addBack_any (g off c m d gv : Nat) (O V : List Nat) (w : World) (hO0 : Buf w g 75 O) (hoff : off + m + 1 ≤ O.length) (hb0 : Buf w gv 75 V) (hne : gv ≠ g) (hmV : m ≤ V.length) (hcm : m + 1 ≤ c) (hmd : m ≤ d) (hm : m ≤ 1073741824) :
    Calls Tryz.prog 136 #[.slice (some ⟨g, off, none⟩) (m + 1) c, .slice (some ⟨gv, 0, none⟩) m d] w (AddBackR g off m O (V.take m) w) := by
  have hoff' := Lib.hid hoff
  have hmV' := Lib.hid hmV
  clear hoff hmV
  go_enter Tryz.func136, Tryz.ntmps136
  go_wp2
  go_loopw [4, 9] (fun cv iv wr => ∃ (k r : Nat) (P : List Nat), k ≤ m ∧ iv = .int .i64 (k : Int) ∧ cv = .int .u32 (r : Int) ∧ r ≤ 1 ∧ Hid (P.length = k) ∧ Buf wr g 75 (O.take off ++ P ++ O.drop (off + k)) ∧
      Hid (val P + W k * r = val ((O.drop off).take k) + val (V.take k)) ∧ Only g w wr)
    (fun _ iv _ => m - (intOf iv).toNat)
  case atStart =>
    exact ⟨0, 0, [], by omega, rfl, rfl, by omega, rfl, by simpa using hO0, by simp [Hid, val], Only.refl _ _⟩
  case round =>
    obtain ⟨k, r, P, hk, rfl, rfl, hr, hP, hO, hval, hB⟩ := hrel
    have hq : off + k < O.length := by have := hoff'.out; omega
    have hdrop : O.drop (off + k) = O[off + k] :: O.drop (off + k + 1) := drop_get (List.getElem?_eq_getElem hq)
    have hzb := hO0.bd.get hq
    have hzq : O[off + k]? = some O[off + k] := List.getElem?_eq_getElem hq
    generalize O[off + k] = z at hdrop hzb hzq
    have hol : (O.take off).length = off := by rw [List.length_take]; omega
    rw [hdrop] at hO
    have hget := get_mid (O.take off) P (O.drop (off + k + 1)) z
    rw [hol, hP.out] at hget
    obtain ⟨z', hz', hc3⟩ := hO.cell (k := off + k) (List.getElem?_eq_some_iff.1 hget).1
    obtain rfl : z = z' := by rw [hget] at hz'; exact Option.some.inj hz'
    have hf3 := hO.frozen (off + k)
    have HQ := Lib.hid hzq
    have HOL := Lib.hid hol
    clear hget hz' hdrop hzq hol
    by_cases hlt : k < m
    · obtain ⟨y, hy, hc2⟩ := (hB.buf hb0 hne).cell (k := k) (by have := hmV'.out; omega)
      have hyb : y < 4294967296 := hb0.bd y (List.mem_of_getElem? hy)
      have HY := Lib.hid hy
      clear hy
      go_wp2_with (go_at_call 92; refine (add32_h _ _ _ _ hzb hyb hr).mono ?_; rintro e w' ⟨rfl, s, r', rfl, hs, hr', hsum⟩)
      go_roundw
      case rel =>
        refine ⟨k + 1, r', P ++ [s], by omega, by go_num, rfl, hr', ?_, ?_, ?_, hB.setCell _ _⟩
        · show (P ++ [s]).length = k + 1
          rw [List.length_append, hP.out]; rfl
        · have h1 := hO.set_ (off + k) s hs
          have h2 := set_mid (O.take off) P (O.drop (off + k + 1)) z s
          rw [HOL.out, hP.out] at h2
          rw [h2] at h1
          exact h1
        · show val (P ++ [s]) + W (k + 1) * r' = val ((O.drop off).take (k + 1)) + val (V.take (k + 1))
          rw [val_snoc, hP.out, val_take_get V HY.out, val_take_get (O.drop off) (x := z) (by rw [List.getElem?_drop]; exact HQ.out)]
          exact add_col hval.out hsum.out
      case measure => simp [intOf]; omega
    · obtain rfl : k = m := by omega
      go_wp2
      obtain ⟨s, f, es, hs, hf, hsz⟩ : ∃ s f : Nat, ((z : Int) + r) % 4294967296 = s ∧ s < 4294967296 ∧ f ≤ 1 ∧ s + 4294967296 * f = z + 0 + r := ⟨(((z : Int) + r) % 4294967296).toNat, (z + r) / 4294967296, by omega, by omega, by omega, by omega⟩
      rw [es]
      go_end0
      refine ⟨f, P ++ [s], rfl, hf, by rw [List.length_append, hP.out]; rfl, ?_, ?_, hB.setCell _ _⟩
      · have h1 := hO.set_ (off + k) s hs
        have h2 := set_mid (O.take off) P (O.drop (off + k + 1)) z s
        rw [HOL.out, hP.out] at h2
        rw [h2] at h1
        exact h1
      · rw [val_snoc, hP.out, val_take_get (O.drop off) (x := z) (by rw [List.getElem?_drop]; exact HQ.out)]
        have := add_col (y := 0) hval.out hsz
        omega

end Go.Proofs.YtfnibkodccfocaaGreat
