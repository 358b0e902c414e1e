/- The walk of addTimes: a multiple of a number is added to limbs in place. -/
import Derived.Test.YtfnibkodccfocaaGreatAdd
namespace Go.Proofs.YtfnibkodccfocaaGreat
open Go.RowKit

theorem prod_int {x y : Nat} (hx : x < 4294967296) (hy : y < 4294967296) : (x : Int) * (y : Int) ≤ 18446744065119617025 ∧ 0 ≤ (x : Int) * (y : Int) := by
  have := mul_le_two hx hy
  rw [← Int.natCast_mul]
  omega

theorem col_parts {x y z r : Nat} (hx : x < 4294967296) (hy : y < 4294967296) (hz : z < 4294967296) (hr : r < 4294967296) :
    ∃ s r' : Nat, ((x : Int) * y + z + r) % 4294967296 = s ∧ ((x : Int) * y + z + r) / 4294967296 = r' ∧ s < 4294967296 ∧ r' < 4294967296 ∧ s + 4294967296 * r' = x * y + z + r := by
  have := mul_le_two hx hy
  have e : (x : Int) * y + z + r = ((x * y + z + r : Nat) : Int) := by simp
  rw [e]
  exact ⟨(x * y + z + r) % 4294967296, (x * y + z + r) / 4294967296, by omega, by omega, by omega, by omega, by omega⟩

/-- What addTimes leaves: the limbs from off on in block g have become P, the carry is r. -/
def TimesR (g off m x : Nat) (O b : List Nat) (w : World) (e : Ending) (w' : World) : Prop :=
  ∃ (r : Nat) (P : List Nat), e = .returned (.int .u32 (r : Int)) ∧ r < 4294967296 ∧ P.length = m ∧ Buf w' g 75 (O.take off ++ P ++ O.drop (off + m)) ∧
    val P + W m * r = val ((O.drop off).take m) + x * val b ∧ Only g w w'

set_option maxHeartbeats 1000000 in
theorem addTimes_any (g off c m d x : Nat) (A2 : Option Addr) (O b : List Nat) (w : World) (hO0 : Buf w g 75 O) (hoff : off + m ≤ O.length) (hb : Lim w g A2 m d b) (hx : x < 4294967296) (hcm : m ≤ c) (hm : m ≤ 1073741824) :
    Calls Tryz.prog 96 #[.slice (some ⟨g, off, none⟩) m c, .slice A2 m d, .int .u32 (x : Int)] w (TimesR g off m x O b w) := by
  have hlb := Lib.hid hb.len
  have hoff' := Lib.hid hoff
  clear hoff
  go_enter Tryz.func96, Tryz.ntmps96
  go_wp2
  go_loopw [7, 13] (fun cv iv wr => ∃ (k r : Nat) (P : List Nat), k ≤ m ∧ iv = .int .i64 (k : Int) ∧ cv = .int .u64 (r : Int) ∧ r < 4294967296 ∧ Hid (P.length = k) ∧ Buf wr g 75 (O.take off ++ P ++ O.drop (off + k)) ∧
      Hid (val P + W k * r = val ((O.drop off).take k) + x * val (b.take k)) ∧ Only g w wr)
    (fun _ iv _ => m - (intOf iv).toNat)
  case atStart =>
    exact ⟨0, 0, [], by omega, rfl, rfl, by omega, rfl, by simpa using hO0, by simp [Hid, val], Only.refl _ _⟩
  case round =>
    obtain ⟨k, r, P, hk, rfl, rfl, hr, hP, hO, hval, hB⟩ := hrel
    by_cases hlt : k < m
    · obtain ⟨b2, o2, y, rfl, hb2, hy, hyb, hc2⟩ := (hb.below (hB.below (Nat.le_refl _)) (Nat.le_refl _) (Nat.le_refl _)).at_ (k := k) hlt
      have hq : off + k < O.length := by have := hoff'.out; omega
      have hdrop : O.drop (off + k) = O[off + k] :: O.drop (off + k + 1) := drop_get (List.getElem?_eq_getElem hq)
      have hzb := hO0.bd.get hq
      have hzq : O[off + k]? = some O[off + k] := List.getElem?_eq_getElem hq
      generalize O[off + k] = z at hdrop hzb hzq
      have hol : (O.take off).length = off := by rw [List.length_take]; omega
      rw [hdrop] at hO
      have hget := get_mid (O.take off) P (O.drop (off + k + 1)) z
      rw [hol, hP.out] at hget
      obtain ⟨z', hz', hc3⟩ := hO.cell (k := off + k) (List.getElem?_eq_some_iff.1 hget).1
      obtain rfl : z = z' := by rw [hget] at hz'; exact Option.some.inj hz'
      have hf3 := hO.frozen (off + k)
      obtain ⟨hprod2, hprod3⟩ := prod_int hx hyb
      have HY := Lib.hid hy
      have HG := Lib.hid hget
      have HD := Lib.hid hdrop
      have HQ := Lib.hid hzq
      have HOL := Lib.hid hol
      clear hy hget hz' hdrop hzq hol
      go_wp2
      obtain ⟨s, r', e1, e2, hs, hr', hsum⟩ := col_parts hx hyb hzb hr
      rw [e1, e2]
      go_roundw
      case rel =>
        refine ⟨k + 1, r', P ++ [s], by omega, by go_num, rfl, hr', ?_, ?_, ?_, hB.setCell _ _⟩
        · show (P ++ [s]).length = k + 1
          rw [List.length_append, hP.out]; rfl
        · have h1 := hO.set_ (off + k) s hs
          have h2 := set_mid (O.take off) P (O.drop (off + k + 1)) z s
          rw [HOL.out, hP.out] at h2
          rw [h2] at h1
          exact h1
        · show val (P ++ [s]) + W (k + 1) * r' = val ((O.drop off).take (k + 1)) + x * val (b.take (k + 1))
          rw [val_snoc, hP.out, val_take_get b HY.out, val_take_get (O.drop off) (x := z) (by rw [List.getElem?_drop]; exact HQ.out)]
          exact mul_col hval.out hsum
      case measure => simp [intOf]; omega
    · obtain rfl : k = m := by omega
      go_wp2
      go_ret
      refine ⟨r, P, ret_int (by omega), hr, hP.out, hO, ?_, hB⟩
      rw [hval.out, val_take_all hlb.out]

end Go.Proofs.YtfnibkodccfocaaGreat
