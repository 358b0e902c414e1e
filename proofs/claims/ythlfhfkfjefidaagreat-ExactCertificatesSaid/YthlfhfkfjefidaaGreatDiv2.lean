/- Several texts in one. -/
import Derived.Test.YthlfhfkfjefidaaGreatLimG
/- The walk of addTimes: a multiple of a number is added to limbs in place. -/
namespace Go.Proofs.YthlfhfkfjefidaaGreat
open Go.RowKit
theorem prod_int {x y : Nat} (hx : x < 4294967296) (hy : y < 4294967296) : (x : Int) * (y : Int) ≤ 18446744065119617025 ∧ 0 ≤ (x : Int) * (y : Int) := by
 have := mul_le_two hx hy
 rw [← Int.natCast_mul]
 omega
theorem col_parts {x y z r : Nat} (hx : x < 4294967296) (hy : y < 4294967296) (hz : z < 4294967296) (hr : r < 4294967296) :
 ∃ s r' : Nat, ((x : Int) * y + z + r) % 4294967296 = s ∧ ((x : Int) * y + z + r) / 4294967296 = r' ∧ s < 4294967296 ∧ r' < 4294967296 ∧ s + 4294967296 * r' = x * y + z + r := by
 have := mul_le_two hx hy
 have e : (x : Int) * y + z + r = ((x * y + z + r : Nat) : Int) := by simp
 rw [e]
 exact ⟨(x * y + z + r) % 4294967296, (x * y + z + r) / 4294967296, by omega, by omega, by omega, by omega, by omega⟩
def TimesR (g off m x : Nat) (O b : List Nat) (w : World) (e : Ending) (w' : World) : Prop :=
 ∃ (r : Nat) (P : List Nat), e = .returned (.int .u32 (r : Int)) ∧ r < 4294967296 ∧ P.length = m ∧ Buf w' g 81 (O.take off ++ P ++ O.drop (off + m)) ∧
  val P + W m * r = val ((O.drop off).take m) + x * val b ∧ Only g w w'
set_option maxHeartbeats 1000000 in
theorem addTimes_any (g off c m d x : Nat) (A2 : Option Addr) (O b : List Nat) (w : World) (hO0 : Buf w g 81 O) (hoff : off + m ≤ O.length) (hb : Lim w g A2 m d b) (hx : x < 4294967296) (hcm : m ≤ c) (hm : m ≤ 1073741824) :
 Calls Tryz.prog 105 #[.slice (some ⟨g, off, none⟩) m c, .slice A2 m d, .int .u32 (x : Int)] w (TimesR g off m x O b w) := by
 have hlb := Lib.hid hb.len
 have hoff' := Lib.hid hoff
 clear hoff
 go_enter Tryz.func105, Tryz.ntmps105
 go_wp2
 go_loopw [7, 13] (fun cv iv wr => ∃ (k r : Nat) (P : List Nat), k ≤ m ∧ iv = .int .i64 (k : Int) ∧ cv = .int .u64 (r : Int) ∧ r < 4294967296 ∧ Hid (P.length = k) ∧ Buf wr g 81 (O.take off ++ P ++ O.drop (off + k)) ∧
  Hid (val P + W k * r = val ((O.drop off).take k) + x * val (b.take k)) ∧ Only g w wr)
  (fun _ iv _ => m - (intOf iv).toNat)
 case atStart =>
  exact ⟨0, 0, [], by omega, rfl, rfl, by omega, rfl, by simpa using hO0, by simp [Hid, val], Only.refl _ _⟩
 case round =>
  obtain ⟨k, r, P, hk, rfl, rfl, hr, hP, hO, hval, hB⟩ := hrel
  by_cases hlt : k < m
  · obtain ⟨b2, o2, y, rfl, hb2, hy, hyb, hc2⟩ := (hb.below (hB.below (Nat.le_refl _)) (Nat.le_refl _) (Nat.le_refl _)).at_ (k := k) hlt
    have hq : off + k < O.length := by have := hoff'.out; omega
    have hdrop : O.drop (off + k) = O[off + k] :: O.drop (off + k + 1) := drop_get (List.getElem?_eq_getElem hq)
    have hzb := hO0.bd.get hq
    have hzq : O[off + k]? = some O[off + k] := List.getElem?_eq_getElem hq
    generalize O[off + k] = z at hdrop hzb hzq
    have hol : (O.take off).length = off := by rw [List.length_take]; omega
    rw [hdrop] at hO
    have hget := get_mid (O.take off) P (O.drop (off + k + 1)) z
    rw [hol, hP.out] at hget
    obtain ⟨z', hz', hc3⟩ := hO.cell (k := off + k) (List.getElem?_eq_some_iff.1 hget).1
    obtain rfl : z = z' := by rw [hget] at hz'; exact Option.some.inj hz'
    have hf3 := hO.frozen (off + k)
    obtain ⟨hprod2, hprod3⟩ := prod_int hx hyb
    have HY := Lib.hid hy
    have HG := Lib.hid hget
    have HD := Lib.hid hdrop
    have HQ := Lib.hid hzq
    have HOL := Lib.hid hol
    clear hy hget hz' hdrop hzq hol
    go_wp2
    obtain ⟨s, r', e1, e2, hs, hr', hsum⟩ := col_parts hx hyb hzb hr
    rw [e1, e2]
    go_roundw
    case rel =>
     refine ⟨k + 1, r', P ++ [s], by omega, by go_num, rfl, hr', ?_, ?_, ?_, hB.setCell _ _⟩
     · show (P ++ [s]).length = k + 1
       rw [List.length_append, hP.out]; rfl
     · have h1 := hO.set_ (off + k) s hs
       have h2 := set_mid (O.take off) P (O.drop (off + k + 1)) z s
       rw [HOL.out, hP.out] at h2
       rw [h2] at h1
       exact h1
     · show val (P ++ [s]) + W (k + 1) * r' = val ((O.drop off).take (k + 1)) + x * val (b.take (k + 1))
       rw [val_snoc, hP.out, val_take_get b HY.out, val_take_get (O.drop off) (x := z) (by rw [List.getElem?_drop]; exact HQ.out)]
       exact mul_col hval.out hsum
    case measure => simp [intOf]; omega
  · obtain rfl : k = m := by omega
    go_wp2
    go_ret
    refine ⟨r, P, ret_int (by omega), hr, hP.out, hO, ?_, hB⟩
    rw [hval.out, val_take_all hlb.out]
end Go.Proofs.YthlfhfkfjefidaaGreat
/- The walks of subtractTimes and addBack: a multiple of a number is taken off limbs in place; a number is added back. -/
namespace Go.Proofs.YthlfhfkfjefidaaGreat
open Go.RowKit
theorem sub_mul_col {k s c c' x y u P V B : Nat} (h : P + x * B = V + W k * c) (hs : s + x * y + c = u + 4294967296 * c') :
 (P + W k * s) + x * (B + W k * y) = (V + W k * u) + W (k + 1) * c' := by
 rw [W_succ, Nat.mul_comm 4294967296, Nat.mul_assoc]
 have h2 : W k * s + W k * (x * y) + W k * c = W k * u + W k * (4294967296 * c') := by
  rw [← Nat.mul_add, ← Nat.mul_add, hs, Nat.mul_add]
 rw [Nat.mul_add x, Nat.mul_left_comm x (W k) y]
 omega
theorem sub_parts {x y c u : Nat} (hx : x < 4294967296) (hy : y < 4294967296) (hc : c ≤ 4294967295) (hu : u < 4294967296) :
 ∃ t0 t1 : Nat, ((x : Int) * y + c) % 4294967296 = t0 ∧ ((x : Int) * y + c) / 4294967296 = t1 ∧ t0 < 4294967296 ∧ t1 ≤ 4294967295 ∧ t0 + 4294967296 * t1 = x * y + c ∧
  (u < t0 → t1 + 1 ≤ 4294967295) := by
 have h1 : x * y ≤ 4294967295 * 4294967295 := Nat.mul_le_mul (by omega) (by omega)
 have e : (x : Int) * y + c = ((x * y + c : Nat) : Int) := by simp
 rw [e]
 exact ⟨(x * y + c) % 4294967296, (x * y + c) / 4294967296, by omega, by omega, by omega, by omega, by omega, by omega⟩
def SubTimesR (g off m x : Nat) (O b : List Nat) (w : World) (e : Ending) (w' : World) : Prop :=
 ∃ (f : Bool) (P : List Nat), e = .returned (.bool f) ∧ P.length = m + 1 ∧ Buf w' g 81 (O.take off ++ P ++ O.drop (off + m + 1)) ∧
  val P + x * val b = val ((O.drop off).take (m + 1)) + W (m + 1) * (if f then 1 else 0) ∧ Only g w w'
set_option maxHeartbeats 1000000 in
theorem subtractTimes_any (g off c m d x gv : Nat) (O V : List Nat) (w : World) (hO0 : Buf w g 81 O) (hoff : off + m + 1 ≤ O.length) (hb0 : Buf w gv 81 V) (hne : gv ≠ g) (hmV : m ≤ V.length) (hx : x < 4294967296) (hcm : m + 1 ≤ c) (hmd : m ≤ d) (hm : m ≤ 1073741824) :
 Calls Tryz.prog 147 #[.slice (some ⟨g, off, none⟩) (m + 1) c, .slice (some ⟨gv, 0, none⟩) m d, .int .u32 (x : Int)] w (SubTimesR g off m x O (V.take m) w) := by
 have hoff' := Lib.hid hoff
 have hmV' := Lib.hid hmV
 clear hoff hmV
 go_enter Tryz.func147, Tryz.ntmps147
 go_wp2
 go_loopw [7, 14] (fun cv iv wr => ∃ (k r : Nat) (P : List Nat), k ≤ m ∧ iv = .int .i64 (k : Int) ∧ cv = .int .u64 (r : Int) ∧ r ≤ 4294967295 ∧ Hid (P.length = k) ∧ Buf wr g 81 (O.take off ++ P ++ O.drop (off + k)) ∧
  Hid (val P + x * val (V.take k) = val ((O.drop off).take k) + W k * r) ∧ Only g w wr)
  (fun _ iv _ => m - (intOf iv).toNat)
 case atStart =>
  exact ⟨0, 0, [], by omega, rfl, rfl, by omega, rfl, by simpa using hO0, by simp [Hid, val], Only.refl _ _⟩
 case round =>
  obtain ⟨k, r, P, hk, rfl, rfl, hr, hP, hO, hval, hB⟩ := hrel
  by_cases hlt : k < m
  · obtain ⟨y, hy, hc2⟩ := (hB.buf hb0 hne).cell (k := k) (by have := hmV'.out; omega)
    have hyb : y < 4294967296 := hb0.bd y (List.mem_of_getElem? hy)
    have hq : off + k < O.length := by have := hoff'.out; omega
    have hdrop : O.drop (off + k) = O[off + k] :: O.drop (off + k + 1) := drop_get (List.getElem?_eq_getElem hq)
    have hzb := hO0.bd.get hq
    have hzq : O[off + k]? = some O[off + k] := List.getElem?_eq_getElem hq
    generalize O[off + k] = z at hdrop hzb hzq
    have hol : (O.take off).length = off := by rw [List.length_take]; omega
    rw [hdrop] at hO
    have hget := get_mid (O.take off) P (O.drop (off + k + 1)) z
    rw [hol, hP.out] at hget
    obtain ⟨z', hz', hc3⟩ := hO.cell (k := off + k) (List.getElem?_eq_some_iff.1 hget).1
    obtain rfl : z = z' := by rw [hget] at hz'; exact Option.some.inj hz'
    have hf3 := hO.frozen (off + k)
    obtain ⟨hprod2, hprod3⟩ := prod_int hx hyb
    obtain ⟨t0, t1, e1, e2, ht0, ht1, hsum, hbor⟩ := sub_parts hx hyb hr hzb
    have HY := Lib.hid hy
    have HG := Lib.hid hget
    have HD := Lib.hid hdrop
    have HQ := Lib.hid hzq
    have HOL := Lib.hid hol
    have HS := Lib.hid hsum
    clear hy hget hz' hdrop hzq hol hsum
    by_cases hbr : z < t0
    · have hbr2 : t1 + 1 ≤ 4294967295 := hbor hbr
      clear hbor
      go_wp2
      obtain ⟨s, es, hs, hsz⟩ : ∃ s : Nat, ((z : Int) - t0) % 4294967296 = s ∧ s < 4294967296 ∧ s + t0 = z + 4294967296 * 1 := ⟨(((z : Int) - t0) % 4294967296).toNat, by omega, by omega, by omega⟩
      rw [es]
      go_roundw
      case rel =>
       refine ⟨k + 1, t1 + 1, P ++ [s], by omega, by go_num, by go_num, by omega, ?_, ?_, ?_, hB.setCell _ _⟩
       · show (P ++ [s]).length = k + 1
         rw [List.length_append, hP.out]; rfl
       · have h1 := hO.set_ (off + k) s hs
         have h2 := set_mid (O.take off) P (O.drop (off + k + 1)) z s
         rw [HOL.out, hP.out] at h2
         rw [h2] at h1
         exact h1
       · show val (P ++ [s]) + x * val (V.take (k + 1)) = val ((O.drop off).take (k + 1)) + W (k + 1) * (t1 + 1)
         rw [val_snoc, hP.out, val_take_get V HY.out, val_take_get (O.drop off) (x := z) (by rw [List.getElem?_drop]; exact HQ.out)]
         exact sub_mul_col hval.out (by have := HS.out; omega)
      case measure => simp [intOf]; omega
    · clear hbor
      go_wp2
      obtain ⟨s, es, hs, hsz⟩ : ∃ s : Nat, ((z : Int) - t0) = s ∧ s < 4294967296 ∧ s + t0 = z + 4294967296 * 0 := ⟨((z : Int) - t0).toNat, by omega, by omega, by omega⟩
      rw [es]
      go_roundw
      case rel =>
       refine ⟨k + 1, t1 + 0, P ++ [s], by omega, by go_num, rfl, by omega, ?_, ?_, ?_, hB.setCell _ _⟩
       · show (P ++ [s]).length = k + 1
         rw [List.length_append, hP.out]; rfl
       · have h1 := hO.set_ (off + k) s hs
         have h2 := set_mid (O.take off) P (O.drop (off + k + 1)) z s
         rw [HOL.out, hP.out] at h2
         rw [h2] at h1
         exact h1
       · show val (P ++ [s]) + x * val (V.take (k + 1)) = val ((O.drop off).take (k + 1)) + W (k + 1) * (t1 + 0)
         rw [val_snoc, hP.out, val_take_get V HY.out, val_take_get (O.drop off) (x := z) (by rw [List.getElem?_drop]; exact HQ.out)]
         exact sub_mul_col hval.out (by have := HS.out; omega)
      case measure => simp [intOf]; omega
  · obtain rfl : k = m := by omega
    have hq : off + k < O.length := by have := hoff'.out; omega
    have hdrop : O.drop (off + k) = O[off + k] :: O.drop (off + k + 1) := drop_get (List.getElem?_eq_getElem hq)
    have hzb := hO0.bd.get hq
    have hzq : O[off + k]? = some O[off + k] := List.getElem?_eq_getElem hq
    generalize O[off + k] = z at hdrop hzb hzq
    have hol : (O.take off).length = off := by rw [List.length_take]; omega
    rw [hdrop] at hO
    have hget := get_mid (O.take off) P (O.drop (off + k + 1)) z
    rw [hol, hP.out] at hget
    obtain ⟨z', hz', hc3⟩ := hO.cell (k := off + k) (List.getElem?_eq_some_iff.1 hget).1
    obtain rfl : z = z' := by rw [hget] at hz'; exact Option.some.inj hz'
    have hf3 := hO.frozen (off + k)
    have HQ := Lib.hid hzq
    have HOL := Lib.hid hol
    clear hget hz' hdrop hzq hol
    go_wp2
    go_ret
    obtain ⟨s, es, hs, hsz⟩ : ∃ s : Nat, ((z : Int) - r) % 4294967296 = s ∧ s < 4294967296 ∧ s + r = z + 4294967296 * (if decide (z < r) then 1 else 0) := by
     refine ⟨(((z : Int) - r) % 4294967296).toNat, by omega, by omega, ?_⟩
     by_cases h : z < r
     · simp only [h, decide_true, if_true]; omega
     · simp only [h, decide_false]; simp; omega
    rw [es]
    refine ⟨decide (z < r), P ++ [s], rfl, by rw [List.length_append, hP.out]; rfl, ?_, ?_, hB.setCell _ _⟩
    · have h1 := hO.set_ (off + k) s hs
      have h2 := set_mid (O.take off) P (O.drop (off + k + 1)) z s
      rw [HOL.out, hP.out] at h2
      rw [h2] at h1
      exact h1
    · rw [val_snoc, hP.out, val_take_get (O.drop off) (x := z) (by rw [List.getElem?_drop]; exact HQ.out)]
      have := sub_mul_col (y := 0) (x := x) (s := s) (u := z) (c' := if decide (z < r) = true then 1 else 0) hval.out (by omega)
      rw [Nat.mul_zero, Nat.add_zero] at this
      exact this
def AddBackR (g off m : Nat) (O b : List Nat) (w : World) (e : Ending) (w' : World) : Prop :=
 ∃ (f : Nat) (P : List Nat), e = .returned (.tuple #[]) ∧ f ≤ 1 ∧ P.length = m + 1 ∧ Buf w' g 81 (O.take off ++ P ++ O.drop (off + m + 1)) ∧
  val P + W (m + 1) * f = val ((O.drop off).take (m + 1)) + val b ∧ Only g w w'
set_option maxHeartbeats 1000000 in
theorem addBack_any (g off c m d gv : Nat) (O V : List Nat) (w : World) (hO0 : Buf w g 81 O) (hoff : off + m + 1 ≤ O.length) (hb0 : Buf w gv 81 V) (hne : gv ≠ g) (hmV : m ≤ V.length) (hcm : m + 1 ≤ c) (hmd : m ≤ d) (hm : m ≤ 1073741824) :
 Calls Tryz.prog 148 #[.slice (some ⟨g, off, none⟩) (m + 1) c, .slice (some ⟨gv, 0, none⟩) m d] w (AddBackR g off m O (V.take m) w) := by
 have hoff' := Lib.hid hoff
 have hmV' := Lib.hid hmV
 clear hoff hmV
 go_enter Tryz.func148, Tryz.ntmps148
 go_wp2
 go_loopw [4, 9] (fun cv iv wr => ∃ (k r : Nat) (P : List Nat), k ≤ m ∧ iv = .int .i64 (k : Int) ∧ cv = .int .u32 (r : Int) ∧ r ≤ 1 ∧ Hid (P.length = k) ∧ Buf wr g 81 (O.take off ++ P ++ O.drop (off + k)) ∧
  Hid (val P + W k * r = val ((O.drop off).take k) + val (V.take k)) ∧ Only g w wr)
  (fun _ iv _ => m - (intOf iv).toNat)
 case atStart =>
  exact ⟨0, 0, [], by omega, rfl, rfl, by omega, rfl, by simpa using hO0, by simp [Hid, val], Only.refl _ _⟩
 case round =>
  obtain ⟨k, r, P, hk, rfl, rfl, hr, hP, hO, hval, hB⟩ := hrel
  have hq : off + k < O.length := by have := hoff'.out; omega
  have hdrop : O.drop (off + k) = O[off + k] :: O.drop (off + k + 1) := drop_get (List.getElem?_eq_getElem hq)
  have hzb := hO0.bd.get hq
  have hzq : O[off + k]? = some O[off + k] := List.getElem?_eq_getElem hq
  generalize O[off + k] = z at hdrop hzb hzq
  have hol : (O.take off).length = off := by rw [List.length_take]; omega
  rw [hdrop] at hO
  have hget := get_mid (O.take off) P (O.drop (off + k + 1)) z
  rw [hol, hP.out] at hget
  obtain ⟨z', hz', hc3⟩ := hO.cell (k := off + k) (List.getElem?_eq_some_iff.1 hget).1
  obtain rfl : z = z' := by rw [hget] at hz'; exact Option.some.inj hz'
  have hf3 := hO.frozen (off + k)
  have HQ := Lib.hid hzq
  have HOL := Lib.hid hol
  clear hget hz' hdrop hzq hol
  by_cases hlt : k < m
  · obtain ⟨y, hy, hc2⟩ := (hB.buf hb0 hne).cell (k := k) (by have := hmV'.out; omega)
    have hyb : y < 4294967296 := hb0.bd y (List.mem_of_getElem? hy)
    have HY := Lib.hid hy
    clear hy
    go_wp2_with (go_at_call 101; refine (add32_h _ _ _ _ hzb hyb hr).mono ?_; rintro e w' ⟨rfl, s, r', rfl, hs, hr', hsum⟩)
    go_roundw
    case rel =>
     refine ⟨k + 1, r', P ++ [s], by omega, by go_num, rfl, hr', ?_, ?_, ?_, hB.setCell _ _⟩
     · show (P ++ [s]).length = k + 1
       rw [List.length_append, hP.out]; rfl
     · have h1 := hO.set_ (off + k) s hs
       have h2 := set_mid (O.take off) P (O.drop (off + k + 1)) z s
       rw [HOL.out, hP.out] at h2
       rw [h2] at h1
       exact h1
     · show val (P ++ [s]) + W (k + 1) * r' = val ((O.drop off).take (k + 1)) + val (V.take (k + 1))
       rw [val_snoc, hP.out, val_take_get V HY.out, val_take_get (O.drop off) (x := z) (by rw [List.getElem?_drop]; exact HQ.out)]
       exact add_col hval.out hsum.out
    case measure => simp [intOf]; omega
  · obtain rfl : k = m := by omega
    go_wp2
    obtain ⟨s, f, es, hs, hf, hsz⟩ : ∃ s f : Nat, ((z : Int) + r) % 4294967296 = s ∧ s < 4294967296 ∧ f ≤ 1 ∧ s + 4294967296 * f = z + 0 + r := ⟨(((z : Int) + r) % 4294967296).toNat, (z + r) / 4294967296, by omega, by omega, by omega, by omega⟩
    rw [es]
    go_end0
    refine ⟨f, P ++ [s], rfl, hf, by rw [List.length_append, hP.out]; rfl, ?_, ?_, hB.setCell _ _⟩
    · have h1 := hO.set_ (off + k) s hs
      have h2 := set_mid (O.take off) P (O.drop (off + k + 1)) z s
      rw [HOL.out, hP.out] at h2
      rw [h2] at h1
      exact h1
    · rw [val_snoc, hP.out, val_take_get (O.drop off) (x := z) (by rw [List.getElem?_drop]; exact HQ.out)]
      have := add_col (y := 0) hval.out hsz
      omega
end Go.Proofs.YthlfhfkfjefidaaGreat
/- The walk of guess: the greatest limb whose product with two limbs is at most three limbs. -/
namespace Go.Proofs.YthlfhfkfjefidaaGreat
open Go.RowKit
theorem guess_gt {D R T v0 v1 u0 : Nat} (h : D * v1 + R = T) (h2 : R * 4294967296 + u0 < D * v0) : u0 + 4294967296 * T < D * (v0 + 4294967296 * v1) := by
 rw [Nat.mul_add, Nat.mul_left_comm]; omega
theorem guess_le {D R T v0 v1 u0 : Nat} (h : D * v1 + R = T) (h2 : D * v0 ≤ R * 4294967296 + u0) : D * (v0 + 4294967296 * v1) ≤ u0 + 4294967296 * T := by
 rw [Nat.mul_add, Nat.mul_left_comm]; omega
theorem guess_first {T v0 v1 u0 : Nat} (h0 : 0 < v1) (hu : u0 < 4294967296) : u0 + 4294967296 * T < (T / v1 + 1) * (v0 + 4294967296 * v1) := by
 have h1 : T < (T / v1 + 1) * v1 := by rw [Nat.add_mul, Nat.one_mul, Nat.mul_comm]; exact Nat.lt_mul_div_succ T h0
 rw [Nat.mul_add, Nat.mul_left_comm]
 omega
def GuessR (u0 T v0 v1 : Nat) (w : World) (e : Ending) (w' : World) : Prop :=
 (∃ q : Nat, e = .returned (.int .u32 (q : Int)) ∧ q ≤ 4294967295 ∧ q * (v0 + 4294967296 * v1) ≤ u0 + 4294967296 * T ∧
   (q = 4294967295 ∨ u0 + 4294967296 * T < (q + 1) * (v0 + 4294967296 * v1))) ∧ ∃ k, w' = w.drewN k
set_option maxHeartbeats 2000000 in
theorem guess_lt (g gv off offv c d u0 u1 u2 v0 v1 : Nat) (w : World) (hu0 : u0 < 4294967296) (hu1 : u1 < 4294967296) (hu2 : u2 < v1) (hv0 : v0 < 4294967296) (hv1 : v1 < 4294967296)
 (c0 : w.cell? ⟨g, off, none⟩ = some (.int .u32 (u0 : Int))) (c1 : w.cell? ⟨g, off + 1, none⟩ = some (.int .u32 (u1 : Int))) (c2 : w.cell? ⟨g, off + 2, none⟩ = some (.int .u32 (u2 : Int)))
 (d0 : w.cell? ⟨gv, offv, none⟩ = some (.int .u32 (v0 : Int))) (d1 : w.cell? ⟨gv, offv + 1, none⟩ = some (.int .u32 (v1 : Int))) :
 Calls Tryz.prog 146 #[.slice (some ⟨g, off, none⟩) 3 c, .slice (some ⟨gv, offv, none⟩) 2 d] w (GuessR u0 (u2 * 4294967296 + u1) v0 v1 w) := by
 have h3 := or_u64 u2 u1 (by omega) hu1
 have h4 : decide (u2 < v1) = true := by simpa using hu2
 have h5 : ((v1 : Int) == 0) = false := by simp; omega
 have eT : (u2 : Int) * 4294967296 + (u1 : Int) = ((u2 * 4294967296 + u1 : Nat) : Int) := by simp
 rw [eT] at h3
 have hTb : u2 * 4294967296 + u1 < v1 * 4294967296 := by
  have : (u2 + 1) * 4294967296 ≤ v1 * 4294967296 := Nat.mul_le_mul_right _ hu2
  omega
 have hTc : u2 * 4294967296 + u1 ≤ 18446744073709551615 := by omega
 clear eT
 generalize u2 * 4294967296 + u1 = T at h3 hTb hTc
 have HM : Hid (T / v1 = 4294967295 ∨ u0 + 4294967296 * T < (T / v1 + 1) * (v0 + 4294967296 * v1)) := .inr (guess_first (by omega) hu0)
 have hQ : T / v1 ≤ 4294967295 := by
  have := Nat.div_lt_of_lt_mul (m := T) (n := v1) (k := 4294967296) hTb
  omega
 have HT : Hid (T / v1 * v1 + T % v1 = T) := by
  have := Nat.div_add_mod T v1
  rw [Nat.mul_comm] at this
  exact this
 have eq : (T : Int) / (v1 : Int) = ((T / v1 : Nat) : Int) := (Int.natCast_ediv _ _).symm
 have hRb : T % v1 ≤ 18446744073709551615 := by have := Nat.mod_lt T (y := v1) (by omega); omega
 generalize T / v1 = Q at HM hQ HT eq
 generalize T % v1 = ρ at HT hRb
 have e2 : (T : Int) - (Q : Int) * (v1 : Int) = (ρ : Int) := by have := HT.out; rw [← Int.natCast_mul]; omega
 obtain ⟨p1, p2⟩ := prod_int (x := Q) (y := v1) (by omega) hv1
 clear hTb
 go_enter Tryz.func146, Tryz.ntmps146
 go_wp2
 go_quiet (fail)
 go_wp2
 go_quiet (fail)
 go_wp2
 clear h3 eq e2 p1 p2 c1 c2 h4
 go_loopw [6, 7] (fun dv rv wr => ∃ D R : Nat, dv = .int .u64 (D : Int) ∧ rv = .int .u64 (R : Int) ∧ D ≤ 4294967295 ∧ R ≤ 18446744073709551615 ∧ Hid (D * v1 + R = T) ∧ Hid (D = 4294967295 ∨ u0 + 4294967296 * T < (D + 1) * (v0 + 4294967296 * v1)) ∧ ∃ q, wr = w.drewN q)
  (fun dv _ _ => (intOf dv).toNat)
 case atStart => exact ⟨_, _, rfl, rfl, hQ, hRb, HT.out, HM, _, rfl⟩
 case round =>
  clear hRb
  obtain ⟨D, R, rfl, rfl, hD, hR, hDT, hmax, q, rfl⟩ := hrel
  by_cases hRB : R < 4294967296
  · have g1 : decide ((R : Int) < 4294967296) = true := by simp; omega
    have g2 := or_u64 R u0 hRB hu0
    obtain ⟨g3, g4⟩ := prod_int (x := D) (y := v0) (by omega) hv0
    by_cases hgt : R * 4294967296 + u0 < D * v0
    · obtain ⟨E, rfl⟩ : ∃ E, D = E + 1 := by
       rcases Nat.eq_zero_or_pos D with h | h
       · subst h; rw [Nat.zero_mul] at hgt; omega
       · exact ⟨D - 1, by omega⟩
      have g5 : (R : Int) * 4294967296 + (u0 : Int) < ((E + 1 : Nat) : Int) * (v0 : Int) := by rw [← Int.natCast_mul]; omega
      have hgt' := Lib.hid hgt
      clear hgt
      rw [show ((E + 1 : Nat) : Int) = (E : Int) + 1 from by omega] at g3 g4 g5
      go_wp2
      go_quiet (fail)
      go_wp2
      go_roundw
      case rel =>
       refine ⟨E, R + v1, by go_num, by go_num, by omega, by omega, ?_, .inr (guess_gt hDT.out hgt'.out), _, rfl⟩
       show E * v1 + (R + v1) = T
       have := hDT.out
       rw [Nat.add_mul, Nat.one_mul] at this
       omega
      case measure => simp [intOf]
    · have g5 : ¬ (R : Int) * 4294967296 + (u0 : Int) < (D : Int) * (v0 : Int) := by rw [← Int.natCast_mul]; omega
      have g6 : decide ((R : Int) * 4294967296 + (u0 : Int) < (D : Int) * (v0 : Int)) = false := by simpa using g5
      have hgt' := Lib.hid hgt
      clear hgt
      go_wp2
      go_quiet (fail)
      go_wp2
      go_ret
      exact ⟨⟨D, ret_int (by omega), hD, guess_le hDT.out (Nat.le_of_not_lt hgt'.out), hmax⟩, _, rfl⟩
  · have g1 : decide ((R : Int) < 4294967296) = false := by simp; omega
    have hle : Hid (D * v0 ≤ R * 4294967296 + u0) := by
     have := mul_le_two (x := D) (y := v0) (by omega) hv0
     show _ ≤ _
     omega
    go_wp2
    go_quiet (fail)
    go_wp2
    go_ret
    exact ⟨⟨D, ret_int (by omega), hD, guess_le hDT.out hle.out, hmax⟩, _, rfl⟩
set_option maxHeartbeats 2000000 in
theorem guess_eq (g gv off offv c d u0 u1 v0 v1 : Nat) (w : World) (hu0 : u0 < 4294967296) (hu1 : u1 < 4294967296) (hv0 : v0 < 4294967296) (hv1 : v1 < 4294967296)
 (c0 : w.cell? ⟨g, off, none⟩ = some (.int .u32 (u0 : Int))) (c1 : w.cell? ⟨g, off + 1, none⟩ = some (.int .u32 (u1 : Int))) (c2 : w.cell? ⟨g, off + 2, none⟩ = some (.int .u32 (v1 : Int)))
 (d0 : w.cell? ⟨gv, offv, none⟩ = some (.int .u32 (v0 : Int))) (d1 : w.cell? ⟨gv, offv + 1, none⟩ = some (.int .u32 (v1 : Int))) :
 Calls Tryz.prog 146 #[.slice (some ⟨g, off, none⟩) 3 c, .slice (some ⟨gv, offv, none⟩) 2 d] w (GuessR u0 (v1 * 4294967296 + u1) v0 v1 w) := by
 have h3 := or_u64 v1 u1 (by omega) hu1
 have h4 : decide (v1 < v1) = false := by simp
 have eT : (v1 : Int) * 4294967296 + (u1 : Int) = ((v1 * 4294967296 + u1 : Nat) : Int) := by simp
 rw [eT] at h3
 have hTc : v1 * 4294967296 + u1 ≤ 18446744073709551615 := by omega
 have HT : Hid (4294967295 * v1 + (u1 + v1) = v1 * 4294967296 + u1) := by show _ = _; omega
 clear eT
 generalize v1 * 4294967296 + u1 = T at h3 hTc HT
 have hRb : u1 + v1 ≤ 18446744073709551615 := by omega
 have e2 : (T : Int) - 4294967295 * (v1 : Int) = ((u1 + v1 : Nat) : Int) := by have := HT.out; omega
 generalize u1 + v1 = ρ at HT hRb e2
 go_enter Tryz.func146, Tryz.ntmps146
 go_wp2
 go_quiet (fail)
 go_wp2
 go_quiet (fail)
 go_wp2
 clear h3 e2 c1 c2 h4
 go_loopw [6, 7] (fun dv rv wr => ∃ D R : Nat, dv = .int .u64 (D : Int) ∧ rv = .int .u64 (R : Int) ∧ D ≤ 4294967295 ∧ R ≤ 18446744073709551615 ∧ Hid (D * v1 + R = T) ∧ Hid (D = 4294967295 ∨ u0 + 4294967296 * T < (D + 1) * (v0 + 4294967296 * v1)) ∧ ∃ q, wr = w.drewN q)
  (fun dv _ _ => (intOf dv).toNat)
 case atStart => exact ⟨4294967295, ρ, rfl, rfl, Nat.le_refl _, hRb, HT.out, .inl rfl, _, rfl⟩
 case round =>
  clear hRb
  obtain ⟨D, R, rfl, rfl, hD, hR, hDT, hmax, q, rfl⟩ := hrel
  by_cases hRB : R < 4294967296
  · have g1 : decide ((R : Int) < 4294967296) = true := by simp; omega
    have g2 := or_u64 R u0 hRB hu0
    obtain ⟨g3, g4⟩ := prod_int (x := D) (y := v0) (by omega) hv0
    by_cases hgt : R * 4294967296 + u0 < D * v0
    · obtain ⟨E, rfl⟩ : ∃ E, D = E + 1 := by
       rcases Nat.eq_zero_or_pos D with h | h
       · subst h; rw [Nat.zero_mul] at hgt; omega
       · exact ⟨D - 1, by omega⟩
      have g5 : (R : Int) * 4294967296 + (u0 : Int) < ((E + 1 : Nat) : Int) * (v0 : Int) := by rw [← Int.natCast_mul]; omega
      have hgt' := Lib.hid hgt
      clear hgt
      rw [show ((E + 1 : Nat) : Int) = (E : Int) + 1 from by omega] at g3 g4 g5
      go_wp2
      go_quiet (fail)
      go_wp2
      go_roundw
      case rel =>
       refine ⟨E, R + v1, by go_num, by go_num, by omega, by omega, ?_, .inr (guess_gt hDT.out hgt'.out), _, rfl⟩
       show E * v1 + (R + v1) = T
       have := hDT.out
       rw [Nat.add_mul, Nat.one_mul] at this
       omega
      case measure => simp [intOf]
    · have g5 : ¬ (R : Int) * 4294967296 + (u0 : Int) < (D : Int) * (v0 : Int) := by rw [← Int.natCast_mul]; omega
      have g6 : decide ((R : Int) * 4294967296 + (u0 : Int) < (D : Int) * (v0 : Int)) = false := by simpa using g5
      have hgt' := Lib.hid hgt
      clear hgt
      go_wp2
      go_quiet (fail)
      go_wp2
      go_ret
      exact ⟨⟨D, ret_int (by omega), hD, guess_le hDT.out (Nat.le_of_not_lt hgt'.out), hmax⟩, _, rfl⟩
  · have g1 : decide ((R : Int) < 4294967296) = false := by simp; omega
    have hle : Hid (D * v0 ≤ R * 4294967296 + u0) := by
     have := mul_le_two (x := D) (y := v0) (by omega) hv0
     show _ ≤ _
     omega
    go_wp2
    go_quiet (fail)
    go_wp2
    go_ret
    exact ⟨⟨D, ret_int (by omega), hD, guess_le hDT.out hle.out, hmax⟩, _, rfl⟩
end Go.Proofs.YthlfhfkfjefidaaGreat
/- The walk of takeOff: one digit of a quotient, and what is left of the dividend. -/
namespace Go.Proofs.YthlfhfkfjefidaaGreat
open Go.RowKit
theorem knuth {k Ul U3 Vl V2 q : Nat} (hUl : Ul < k) (hVl : Vl < k) (hV2 : 4294967296 ≤ V2) (hU : Ul + k * U3 < (Vl + k * V2) * 4294967296) (hq : q ≤ 4294967295) (h1 : q * V2 ≤ U3) (h2 : q = 4294967295 ∨ U3 < (q + 1) * V2) :
 (q * (Vl + k * V2) ≤ Ul + k * U3 ∧ Ul + k * U3 < (q + 1) * (Vl + k * V2)) ∨ (1 ≤ q ∧ Ul + k * U3 < q * (Vl + k * V2) ∧ q * (Vl + k * V2) ≤ Ul + k * U3 + (Vl + k * V2)) := by
 have hlt : Ul + k * U3 < (q + 1) * (Vl + k * V2) := by
  rcases h2 with rfl | h2
  · rw [Nat.mul_comm (4294967295 + 1)]; exact hU
  · have a1 : k * (U3 + 1) ≤ k * ((q + 1) * V2) := Nat.mul_le_mul_left _ h2
    rw [Nat.mul_add (q + 1), Nat.mul_left_comm (q + 1)]
    rw [Nat.mul_add] at a1
    omega
 rcases Nat.lt_or_ge (Ul + k * U3) (q * (Vl + k * V2)) with h | h
 · refine .inr ⟨?_, h, ?_⟩
   · rcases Nat.eq_zero_or_pos q with h0 | h0
     · subst h0; rw [Nat.zero_mul] at h; omega
     · exact h0
   · have a1 : k * (q * V2) ≤ k * U3 := Nat.mul_le_mul_left _ h1
     have a2 : q * Vl ≤ 4294967296 * k := Nat.mul_le_mul (by omega) (by omega)
     have a3 : k * 4294967296 ≤ k * V2 := Nat.mul_le_mul_left _ hV2
     rw [Nat.mul_add, Nat.mul_left_comm q k]
     omega
 · exact .inl ⟨h, hlt⟩
def gq (u0 T v0 v1 : Nat) : Nat := min 4294967295 ((u0 + 4294967296 * T) / (v0 + 4294967296 * v1))
theorem gq_of {q u0 T v0 v1 : Nat} (hv : 0 < v1) (h0 : q ≤ 4294967295) (h1 : q * (v0 + 4294967296 * v1) ≤ u0 + 4294967296 * T) (h2 : q = 4294967295 ∨ u0 + 4294967296 * T < (q + 1) * (v0 + 4294967296 * v1)) : q = gq u0 T v0 v1 := by
 unfold gq
 have a1 : q ≤ (u0 + 4294967296 * T) / (v0 + 4294967296 * v1) := (Nat.le_div_iff_mul_le (by omega)).2 h1
 rcases h2 with h2 | h2
 · omega
 · have a2 : (u0 + 4294967296 * T) / (v0 + 4294967296 * v1) < q + 1 := (Nat.div_lt_iff_lt_mul (by omega)).2 h2
   omega
theorem guess_any (g gv off offv c d u0 u1 u2 v0 v1 : Nat) (w : World) (hu0 : u0 < 4294967296) (hu1 : u1 < 4294967296) (hu2 : u2 ≤ v1) (hpos : 0 < v1) (hv0 : v0 < 4294967296) (hv1 : v1 < 4294967296)
 (c0 : w.cell? ⟨g, off, none⟩ = some (.int .u32 (u0 : Int))) (c1 : w.cell? ⟨g, off + 1, none⟩ = some (.int .u32 (u1 : Int))) (c2 : w.cell? ⟨g, off + 2, none⟩ = some (.int .u32 (u2 : Int)))
 (d0 : w.cell? ⟨gv, offv, none⟩ = some (.int .u32 (v0 : Int))) (d1 : w.cell? ⟨gv, offv + 1, none⟩ = some (.int .u32 (v1 : Int))) :
 Calls Tryz.prog 146 #[.slice (some ⟨g, off, none⟩) 3 c, .slice (some ⟨gv, offv, none⟩) 2 d] w fun e w' => e = .returned (.int .u32 ((gq u0 (u2 * 4294967296 + u1) v0 v1 : Nat) : Int)) ∧ ∃ k, w' = w.drewN k := by
 rcases Nat.lt_or_ge u2 v1 with h | h
 · exact (guess_lt g gv off offv c d u0 u1 u2 v0 v1 w hu0 hu1 h hv0 hv1 c0 c1 c2 d0 d1).mono fun e w' ⟨⟨q, he, a, b, cc⟩, hw⟩ => ⟨by rw [he, gq_of hpos a b cc], hw⟩
 · obtain rfl : u2 = v1 := by omega
   exact (guess_eq g gv off offv c d u0 u1 v0 u2 w hu0 hu1 hv0 hv1 c0 c1 c2 d0 d1).mono fun e w' ⟨⟨q, he, a, b, cc⟩, hw⟩ => ⟨by rw [he, gq_of hpos a b cc], hw⟩
def TakeR (g off m : Nat) (O b : List Nat) (w : World) (e : Ending) (w' : World) : Prop :=
 ∃ (q : Nat) (P : List Nat), e = .returned (.int .u32 (q : Int)) ∧ q < 4294967296 ∧ P.length = m + 1 ∧ Buf w' g 81 (O.take off ++ P ++ O.drop (off + m + 1)) ∧
  val P + q * val b = val ((O.drop off).take (m + 1)) ∧ val P < val b ∧ Only g w w'
theorem top2 {l : List Nat} {k a b : Nat} (ha : l[k]? = some a) (hb : l[k + 1]? = some b) : val (l.take (k + 2)) = val (l.take k) + W k * (a + 4294967296 * b) := by
 rw [val_take_get l hb, val_take_get l ha, W_succ, Nat.mul_comm 4294967296, Nat.mul_assoc, Nat.mul_add]; omega
theorem top3 {l : List Nat} {k a b c : Nat} (ha : l[k]? = some a) (hb : l[k + 1]? = some b) (hc : l[k + 2]? = some c) : val (l.take (k + 3)) = val (l.take k) + W k * (a + 4294967296 * (b + 4294967296 * c)) := by
 rw [val_take_get l hc, top2 ha hb, show W (k + 2) = W k * (4294967296 * 4294967296) from W_add k 2, Nat.mul_assoc, Nat.add_assoc, ← Nat.mul_add]
 congr 2
 omega
set_option maxHeartbeats 1000000 in
theorem takeOff_any (g off c k d gv : Nat) (O V : List Nat) (w : World) (hO0 : Buf w g 81 O) (hoff : off + k + 3 ≤ O.length) (hb0 : Buf w gv 81 V) (hne : gv ≠ g) (hmV : k + 2 ≤ V.length) (hcm : k + 3 ≤ c) (hmd : k + 2 ≤ d) (hm : k ≤ 1073741820)
 (htop : 0 < V.getD (k + 1) 0) (hUV : val ((O.drop off).take (k + 3)) < val (V.take (k + 2)) * 4294967296) :
 Calls Tryz.prog 133 #[.slice (some ⟨g, off, none⟩) (k + 3) c, .slice (some ⟨gv, 0, none⟩) (k + 2) d] w (TakeR g off (k + 2) O (V.take (k + 2)) w) := by
 obtain ⟨u0, hu0, c0⟩ := hO0.cell (k := off + k) (by omega)
 obtain ⟨u1, hu1, c1⟩ := hO0.cell (k := off + k + 1) (by omega)
 obtain ⟨u2, hu2, c2⟩ := hO0.cell (k := off + k + 2) (by omega)
 obtain ⟨v0, hv0, d0⟩ := hb0.cell (k := k) (by omega)
 obtain ⟨v1, hv1, d1⟩ := hb0.cell (k := k + 1) (by omega)
 have bu0 := hO0.bd u0 (List.mem_of_getElem? hu0)
 have bu1 := hO0.bd u1 (List.mem_of_getElem? hu1)
 have bv0 := hb0.bd v0 (List.mem_of_getElem? hv0)
 have bv1 := hb0.bd v1 (List.mem_of_getElem? hv1)
 have eU := top3 (l := O.drop off) (k := k) (by rw [List.getElem?_drop]; exact hu0) (by rw [List.getElem?_drop]; exact hu1) (by rw [List.getElem?_drop]; exact hu2)
 have eV := top2 hv0 hv1
 have hpos : 0 < v1 := by rw [List.getD_eq_getElem?_getD, hv1] at htop; exact htop
 have hUl : val ((O.drop off).take k) < W k := by
  have := val_lt ((hO0.bd.drop off).take k)
  rwa [List.length_take, List.length_drop, Nat.min_eq_left (by omega)] at this
 have hVl : val (V.take k) < W k := by
  have := val_lt (hb0.bd.take k)
  rwa [List.length_take, Nat.min_eq_left (by omega)] at this
 have hWk := W_pos k
 have hu2v : u2 ≤ v1 := by
  rcases Nat.lt_or_ge v1 u2 with h | h
  · exfalso
    rw [eU, eV] at hUV
    have a1 : W k * (4294967296 * (4294967296 * (v1 + 1))) ≤ W k * (u0 + 4294967296 * (u1 + 4294967296 * u2)) := Nat.mul_le_mul_left _ (by omega)
    have a2 : W k * (v0 + 4294967296 * v1 + 1) ≤ W k * (4294967296 * (v1 + 1)) := Nat.mul_le_mul_left _ (by omega)
    rw [Nat.mul_add (W k) (v0 + 4294967296 * v1), Nat.mul_one] at a2
    rw [Nat.mul_left_comm] at a1
    generalize W k * (4294967296 * (v1 + 1)) = X at a1 a2
    generalize W k * (v0 + 4294967296 * v1) = Y at a2 hUV
    generalize W k * (u0 + 4294967296 * (u1 + 4294967296 * u2)) = Z at a1 hUV
    omega
  · exact h
 have hbU : u0 + 4294967296 * (u1 + 4294967296 * u2) = u0 + 4294967296 * (u2 * 4294967296 + u1) := by omega
 have hq0 : gq u0 (u2 * 4294967296 + u1) v0 v1 ≤ 4294967295 := Nat.min_le_left _ _
 have hq1 : gq u0 (u2 * 4294967296 + u1) v0 v1 * (v0 + 4294967296 * v1) ≤ u0 + 4294967296 * (u1 + 4294967296 * u2) := by
  rw [hbU]
  exact (Nat.le_div_iff_mul_le (by omega)).1 (Nat.min_le_right _ _)
 have hq2 : gq u0 (u2 * 4294967296 + u1) v0 v1 = 4294967295 ∨ u0 + 4294967296 * (u1 + 4294967296 * u2) < (gq u0 (u2 * 4294967296 + u1) v0 v1 + 1) * (v0 + 4294967296 * v1) := by
  rw [hbU]
  unfold gq
  rcases Nat.lt_or_ge ((u0 + 4294967296 * (u2 * 4294967296 + u1)) / (v0 + 4294967296 * v1)) 4294967295 with h | h
  · right
    rw [Nat.min_eq_right (Nat.le_of_lt h)]
    exact (Nat.div_lt_iff_lt_mul (by omega)).1 (Nat.lt_succ_self _)
  · left
    exact Nat.min_eq_left h
 have hdec := knuth hUl hVl (by omega) (by rw [eU, eV] at hUV; exact hUV) hq0 hq1 hq2
 rw [← eU, ← eV, show k + 3 = k + 2 + 1 from rfl] at hdec
 have hg : ∀ k2, Calls Tryz.prog 146 #[.slice (some ⟨g, off + k, none⟩) 3 (c - k), .slice (some ⟨gv, k, none⟩) 2 (d - k)] (w.drewN k2) fun e w' => e = .returned (.int .u32 ((gq u0 (u2 * 4294967296 + u1) v0 v1 : Nat) : Int)) ∧ ∃ n, w' = w.drewN n := by
  intro k2
  exact (guess_any g gv (off + k) k (c - k) (d - k) u0 u1 u2 v0 v1 (w.drewN k2) bu0 bu1 hu2v hpos bv0 bv1 c0 c1 c2 d0 d1).mono fun e w' ⟨he, n, hw⟩ => ⟨he, k2 + n, by rw [hw, World.drewN_drewN]⟩
 have hVlt := val_lt (hb0.bd.take (k + 2))
 rw [List.length_take, Nat.min_eq_left (by omega)] at hVlt
 clear hq1 hq2 hu2v hpos hUl hVl hWk eU eV hUV htop hbU c0 c1 c2 d0 d1 hu0 hu1 hu2 hv0 hv1 bu0 bu1 bv0 bv1
 generalize gq u0 (u2 * 4294967296 + u1) v0 v1 = Q at hdec hg hq0
 have HDEC := Lib.hid hdec
 have HG := Lib.hid hg
 have hoff' := Lib.hid hoff
 have hmV' := Lib.hid hmV
 have HVlt := Lib.hid hVlt
 clear hdec hg hoff hmV hVlt
 go_enter Tryz.func133, Tryz.ntmps133
 go_wp2
 go_quiet ((go_at_call 146; exact HG.out _))
 go_wp2_with fail
 have hsub := subtractTimes_any g off c (k + 2) d Q gv O V (w.drewN nq) (hO0.drewN nq) hoff'.out (hb0.drewN nq) hne hmV'.out (by omega) (by omega) hmd (by omega)
 refine hsub.mono ?_
 clear hsub
 rintro e w1 ⟨f, P, rfl, hP, hO1, hv1, hon1⟩
 have hPb : Bd P := fun x hx => hO1.bd x (by simp [hx])
 have hPlt := val_lt hPb
 rw [hP] at hPlt
 have hon : Only g w w1 := (Only.refl g w).drewN nq |>.trans hon1
 rcases HDEC.out with ⟨a1, a2⟩ | ⟨a0, a1, a2⟩
 · obtain rfl : f = false := by
    cases f
    · rfl
    · simp only [if_true, Nat.mul_one] at hv1; omega
   simp only [Bool.false_eq_true, if_false, Nat.mul_zero, Nat.add_zero] at hv1
   have HV := Lib.hid hv1
   have HP := Lib.hid hP
   have hlt : val P < val (V.take (k + 2)) := by
    rw [Nat.add_mul, Nat.one_mul] at a2; omega
   have HLT := Lib.hid hlt
   clear hv1 hP hPlt a1 a2 hlt hon1
   go_wp2
   go_ret
   exact ⟨Q, P, rfl, by omega, HP.out, hO1, HV.out, HLT.out, hon⟩
 · obtain rfl : f = true := by
    cases f
    · simp only [Bool.false_eq_true, if_false, Nat.mul_zero, Nat.add_zero] at hv1; omega
    · rfl
   obtain ⟨q, rfl⟩ : ∃ q, Q = q + 1 := ⟨Q - 1, by omega⟩
   simp only [if_true, Nat.mul_one] at hv1
   have hl1 : (O.take off).length = off := by rw [List.length_take]; have := hoff'.out; omega
   have hl2 : (O.take off ++ P ++ O.drop (off + (k + 2) + 1)).length = O.length := by
    rw [List.length_append, List.length_append, hl1, hP, List.length_drop]; have := hoff'.out; omega
   have hsame : ((O.take off ++ P ++ O.drop (off + (k + 2) + 1)).drop off).take (k + 2 + 1) = P := by
    rw [List.append_assoc, List.drop_left' hl1, List.take_left' hP]
   have hadd := addBack_any g off c (k + 2) d gv _ V w1 hO1 (by rw [hl2]; exact hoff'.out) (hon.buf hb0 hne) hne hmV'.out (by omega) hmd (by omega)
   have HADD := Lib.hid hadd
   have HV := Lib.hid hv1
   have HP := Lib.hid hP
   have HPLT := Lib.hid hPlt
   have H1 := Lib.hid hl1
   have HS := Lib.hid hsame
   have HA1 := Lib.hid a1
   have HA2 := Lib.hid a2
   clear hadd hv1 hP hPlt hl1 hl2 hsame a1 a2 hO1 hPb hon1
   go_wp2_with (go_at_call 148; refine HADD.out.mono ?_; rintro e w2 ⟨f2, P2, rfl, hf2, hP2, hO2, hv2, hon2⟩; have HP2 := Lib.hid hP2; have HV2 := Lib.hid hv2; clear hP2 hv2)
   go_ret
   have e1 := HV.out
   have e2 := HV2.out
   rw [HS.out] at e2
   have b1 := HA1.out
   have b2 := HA2.out
   have hPb2 : Bd P2 := fun x hx => hO2.bd x (by simp [hx])
   have c1 := val_lt hPb2
   rw [HP2.out] at c1
   have c2 := HVlt.out
   have c3 : W (k + 2) ≤ W (k + 2 + 1) := W_mono (by omega)
   rw [Nat.add_mul, Nat.one_mul] at e1 b1 b2
   have hf : f2 = 1 := by
    rcases Nat.eq_zero_or_pos f2 with h | h
    · subst h; rw [Nat.mul_zero] at e2; omega
    · omega
   subst hf
   refine ⟨q, P2, ret_int (by omega), by omega, HP2.out, ?_, by omega, by omega, hon.trans hon2⟩
   have e3 : (O.take off ++ P ++ O.drop (off + (k + 2) + 1)).take off = O.take off := by rw [List.append_assoc, List.take_left' H1.out]
   have e4 : (O.take off ++ P ++ O.drop (off + (k + 2) + 1)).drop (off + (k + 2) + 1) = O.drop (off + (k + 2) + 1) := by
    rw [List.drop_left' (by rw [List.length_append, H1.out, HP.out]; omega)]
   rwa [e3, e4] at hO2
end Go.Proofs.YthlfhfkfjefidaaGreat
