/- The walk of shiftBack: limbs divided by a power of two, in place. -/
import Derived.Test.YtfnibkodccfocaaGreatShift
import Derived.Laws.ShiftsVarLaws
namespace Go.Proofs.YtfnibkodccfocaaGreat
open Go.RowKit

/-- Limbs divided by 2^s. -/
def shrL (s : Nat) : List Nat → List Nat
  | [] => []
  | [x] => [x / 2 ^ s]
  | x :: y :: r => (x / 2 ^ s + y * 2 ^ (32 - s) % 4294967296) :: shrL s (y :: r)

theorem shr_mod {s : Nat} (hs : s ≤ 32) (y : Nat) : y * 2 ^ (32 - s) % 4294967296 * 2 ^ s = 4294967296 * (y % 2 ^ s) := by
  have e : (4294967296 : Nat) = 2 ^ s * 2 ^ (32 - s) := by rw [← Nat.pow_add, Nat.add_comm, Nat.sub_add_cancel hs]
  rw [e, Nat.mul_mod_mul_right, Nat.mul_assoc, Nat.mul_comm (2 ^ (32 - s)), Nat.mul_comm]
theorem val_shrL {s : Nat} (hs : s ≤ 32) : ∀ (l : List Nat) (x : Nat), val (shrL s (x :: l)) * 2 ^ s + x % 2 ^ s = val (x :: l)
  | [], x => by
    have := Nat.div_add_mod x (2 ^ s)
    simp only [shrL, val, Nat.mul_zero, Nat.add_zero]
    rw [Nat.mul_comm]; exact this
  | y :: r, x => by
    have ih := val_shrL hs r y
    have h1 := shr_mod hs y
    have h2 := Nat.div_add_mod x (2 ^ s)
    rw [Nat.mul_comm] at h2
    simp only [shrL, val_cons x, val_cons (x / 2 ^ s + _), Nat.add_mul, Nat.mul_assoc] at *
    rw [← ih]
    omega
theorem shrL_length (s : Nat) : ∀ l : List Nat, (shrL s l).length = l.length
  | [] => rfl
  | [x] => rfl
  | x :: y :: r => by simp [shrL, shrL_length s (y :: r)]
theorem shrL_get (s : Nat) : ∀ (l : List Nat) (k x y : Nat), l[k]? = some x → l[k + 1]? = some y → (shrL s l)[k]? = some (x / 2 ^ s + y * 2 ^ (32 - s) % 4294967296)
  | [], _, _, _, h, _ => by simp at h
  | [a], k, x, y, _, h2 => by simp at h2
  | a :: b :: r, 0, x, y, h, h2 => by simp at h h2; subst h; subst h2; simp [shrL]
  | a :: b :: r, k + 1, x, y, h, h2 => by
    simp only [List.getElem?_cons_succ] at h h2
    simp only [shrL, List.getElem?_cons_succ]
    exact shrL_get s (b :: r) k x y h h2
theorem shrL_last (s : Nat) : ∀ (l : List Nat) (k x : Nat), l[k]? = some x → l.length = k + 1 → (shrL s l)[k]? = some (x / 2 ^ s)
  | [], _, _, h, _ => by simp at h
  | [a], 0, x, h, _ => by simp at h; subst h; simp [shrL]
  | [a], k + 1, x, h, hl => by simp at hl
  | a :: b :: r, 0, x, h, hl => by simp at hl
  | a :: b :: r, k + 1, x, h, hl => by
    simp only [List.getElem?_cons_succ] at h
    simp only [shrL, List.getElem?_cons_succ]
    exact shrL_last s (b :: r) k x h (by simpa using hl)
theorem shr_lt {s x y : Nat} (hs : s < 32) (hx : x < 4294967296) : x / 2 ^ s + y * 2 ^ (32 - s) % 4294967296 < 4294967296 := by
  have e : (4294967296 : Nat) = 2 ^ s * 2 ^ (32 - s) := by rw [← Nat.pow_add, Nat.add_comm, Nat.sub_add_cancel (by omega)]
  have h1 : y * 2 ^ (32 - s) % 4294967296 = (y % 2 ^ s) * 2 ^ (32 - s) := by rw [e, Nat.mul_mod_mul_right]
  have h2 : x / 2 ^ s < 2 ^ (32 - s) := by rw [Nat.div_lt_iff_lt_mul (Nat.two_pow_pos _), Nat.mul_comm, ← e]; exact hx
  have h3 : y % 2 ^ s < 2 ^ s := Nat.mod_lt _ (Nat.two_pow_pos _)
  have h4 : (y % 2 ^ s + 1) * 2 ^ (32 - s) ≤ 2 ^ s * 2 ^ (32 - s) := Nat.mul_le_mul_right _ h3
  rw [← e, Nat.add_mul, Nat.one_mul] at h4
  omega
theorem shr_or {s x y : Nat} (hs : s < 32) (hx : x < 4294967296) :
    bits .or .u32 ((x : Int) / 2 ^ s) ((y : Int) * 2 ^ (32 - s) % 4294967296) = ((x / 2 ^ s + y * 2 ^ (32 - s) % 4294967296 : Nat) : Int) := by
  have e : (4294967296 : Nat) = 2 ^ s * 2 ^ (32 - s) := by rw [← Nat.pow_add, Nat.add_comm, Nat.sub_add_cancel (by omega)]
  have h2 : x / 2 ^ s < 2 ^ (32 - s) := by rw [Nat.div_lt_iff_lt_mul (Nat.two_pow_pos _), Nat.mul_comm, ← e]; exact hx
  have h3 : x / 2 ^ s < 4294967296 := Nat.lt_of_le_of_lt (Nat.div_le_self _ _) hx
  have h4 : y * 2 ^ (32 - s) % 4294967296 < 4294967296 := Nat.mod_lt _ (by omega)
  have h5 : y * 2 ^ (32 - s) % 4294967296 % 2 ^ (32 - s) = 0 := by rw [e, Nat.mul_mod_mul_right, Nat.mul_mod_left]
  have c1 : (y : Int) * 2 ^ (32 - s) % 4294967296 = ((y * 2 ^ (32 - s) % 4294967296 : Nat) : Int) := by simp
  have c2 : (x : Int) / 2 ^ s = ((x / 2 ^ s : Nat) : Int) := by simp
  rw [c1, c2, u32_or_nat _ _ h3 h4, Nat.or_comm, nat_join (32 - s) _ _ h5 h2, Nat.add_comm]

theorem back_get {X S T : List Nat} {q x : Nat} (hS : S.length = X.length) (hx : X[q]? = some x) : (S.take q ++ X.drop q ++ T)[q]? = some x := by
  have hl := (List.getElem?_eq_some_iff.1 hx).1
  have e : (S.take q).length = q := by rw [List.length_take]; omega
  rw [List.append_assoc, List.getElem?_append_right (by omega), e, Nat.sub_self, drop_get hx]; rfl
theorem back_next {X S T : List Nat} {q y : Nat} (hS : S.length = X.length) (hy : X[q + 1]? = some y) : (S.take q ++ X.drop q ++ T)[q + 1]? = some y := by
  have hl := (List.getElem?_eq_some_iff.1 hy).1
  have e : (S.take q).length = q := by rw [List.length_take]; omega
  rw [List.append_assoc, List.getElem?_append_right (by omega), e, Nat.add_sub_cancel_left, List.getElem?_append_left (by rw [List.length_drop]; omega), List.getElem?_drop]; exact hy
theorem back_set {X S T : List Nat} {q x z : Nat} (hS : S.length = X.length) (hx : X[q]? = some x) (hz : S[q]? = some z) : (S.take q ++ X.drop q ++ T).set q z = S.take (q + 1) ++ X.drop (q + 1) ++ T := by
  have hl := (List.getElem?_eq_some_iff.1 hx).1
  obtain ⟨hzl, rfl⟩ := List.getElem?_eq_some_iff.1 hz
  have e : (S.take q).length = q := by rw [List.length_take]; omega
  rw [List.append_assoc, List.set_append_right _ _ (by omega), e, Nat.sub_self, drop_get hx, List.take_succ_eq_append_getElem hzl]
  generalize S[q] = z
  simp

set_option maxRecDepth 100000 in
set_option maxHeartbeats 2000000 in
theorem shiftBack_any (g n c s : Nat) (X T : List Nat) (w : World) (hO : Buf w g 75 (X ++ T)) (hX : X.length = n) (h0 : 0 < n) (hnc : n ≤ c) (hnb : n ≤ 1073741824) (hs : s < 32) :
    Calls Tryz.prog 121 #[.slice (some ⟨g, 0, none⟩) n c, .int .i64 (s : Int)] w fun e w' => e = .returned (.tuple #[]) ∧ Buf w' g 75 (shrL s X ++ T) ∧ Only g w w' := by
  have HX := Lib.hid hX
  have HXB : Hid (Bd X) := fun x hx => hO.bd x (by simp [hx])
  obtain ⟨S, hS⟩ : ∃ S, S = shrL s X := ⟨_, rfl⟩
  have hSl : Hid (S.length = X.length) := by show _ = _; rw [hS, shrL_length]
  rw [← hS]
  have HS := Lib.hid hS
  clear hS hX
  go_enter Tryz.func121, Tryz.ntmps121
  go_wp2
  go_loopw [8] (fun iv wr => ∃ j : Nat, j < n ∧ iv = .int .i64 (j : Int) ∧ Buf wr g 75 (S.take j ++ X.drop j ++ T) ∧ Only g w wr) (fun iv _ => n - (intOf iv).toNat)
  case atStart => exact ⟨0, h0, rfl, by simpa using hO, Only.refl _ _⟩
  case round =>
    obtain ⟨j, hj, rfl, hbuf, hon⟩ := hrel
    obtain ⟨x, hx⟩ : ∃ x, X[j]? = some x := ⟨X[j]'(by rw [HX.out]; exact hj), List.getElem?_eq_getElem (by rw [HX.out]; exact hj)⟩
    have hxb : x < 4294967296 := HXB.out x (List.mem_of_getElem? hx)
    have g1 := back_get (T := T) hSl.out hx
    obtain ⟨x', hx', hcx⟩ := hbuf.cell (k := j) (List.getElem?_eq_some_iff.1 g1).1
    obtain rfl : x' = x := by rw [g1] at hx'; exact (Option.some.inj hx').symm
    have hfx := hbuf.frozen j
    by_cases hlt : j + 1 < n
    · obtain ⟨y, hy⟩ : ∃ y, X[j + 1]? = some y := ⟨X[j + 1]'(by rw [HX.out]; exact hlt), List.getElem?_eq_getElem (by rw [HX.out]; exact hlt)⟩
      have g2 := back_next (T := T) hSl.out hy
      obtain ⟨y', hy', hcy⟩ := hbuf.cell (k := j + 1) (List.getElem?_eq_some_iff.1 g2).1
      obtain rfl : y' = y := by rw [g2] at hy'; exact (Option.some.inj hy').symm
      have hset := hbuf.set_ j _ (shr_lt (y := y') hs hxb)
      rw [back_set (T := T) hSl.out hx (by rw [HS.out]; exact shrL_get s X j x' y' hx hy)] at hset
      have hor := shr_or (y := y') hs hxb
      generalize x' / 2 ^ s + y' * 2 ^ (32 - s) % 4294967296 = z at hset hor
      have HSET := Lib.hid hset
      clear hx hy g1 g2 hx' hy' hset
      go_wp2
      go_region
      go_wp2
      go_roundw
      case rel => exact ⟨j + 1, hlt, by go_num, HSET.out.drew, (hon.setCell _ _).drew⟩
      case measure => simp [intOf]; omega
    · have hn : n = j + 1 := by omega
      have hset := hbuf.set_ j (x' / 2 ^ s) (Nat.lt_of_le_of_lt (Nat.div_le_self _ _) hxb)
      rw [back_set (T := T) hSl.out hx (by rw [HS.out]; exact shrL_last s X j x' hx (by rw [HX.out, hn]))] at hset
      have c1 : ((x' / 2 ^ s : Nat) : Int) = (x' : Int) / 2 ^ s := by simp
      rw [c1] at hset
      have e1 : S.take (j + 1) ++ X.drop (j + 1) ++ T = S ++ T := by
        rw [List.take_of_length_le (by rw [hSl.out, HX.out, hn]; exact Nat.le_refl _), List.drop_of_length_le (by rw [HX.out, hn]; exact Nat.le_refl _), List.append_nil]
      rw [e1] at hset
      have HSET := Lib.hid hset
      clear hx g1 hx' hset c1 e1
      subst hn
      go_wp2
      go_end0
      exact ⟨rfl, HSET.out, hon.setCell _ _⟩

end Go.Proofs.YtfnibkodccfocaaGreat
