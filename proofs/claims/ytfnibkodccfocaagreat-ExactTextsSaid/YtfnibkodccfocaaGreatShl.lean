/- Shifts of limbs, in plain numbers; the loop of shifted. -/
import Derived.Test.YtfnibkodccfocaaGreatShift
import Derived.Laws.ShiftsVarLaws
namespace Go.Proofs.YtfnibkodccfocaaGreat
open Go.RowKit

/-- Limbs times 2^s; p lies below them. -/
def shlL (s : Nat) : Nat → List Nat → List Nat
  | _, [] => []
  | p, x :: r => (x * 2 ^ s % 4294967296 + p / 2 ^ (32 - s)) :: shlL s x r
def lastOr : Nat → List Nat → Nat
  | p, [] => p
  | _, x :: r => lastOr x r

theorem shl_parts {s : Nat} (hs : s ≤ 32) (x : Nat) : x * 2 ^ s % 4294967296 + 4294967296 * (x / 2 ^ (32 - s)) = x * 2 ^ s := by
  have e : (4294967296 : Nat) = 2 ^ (32 - s) * 2 ^ s := by rw [← Nat.pow_add, Nat.sub_add_cancel hs]
  have h1 : x * 2 ^ s / 4294967296 = x / 2 ^ (32 - s) := by
    rw [e, Nat.mul_div_mul_right _ _ (Nat.two_pow_pos s)]
  rw [← h1]
  exact Nat.mod_add_div _ _
theorem val_shlL {s : Nat} (hs : s ≤ 32) : ∀ (l : List Nat) (p : Nat), val (shlL s p l) + W l.length * (lastOr p l / 2 ^ (32 - s)) = p / 2 ^ (32 - s) + val l * 2 ^ s
  | [], p => by simp [shlL, lastOr, val, W_zero]
  | x :: r, p => by
    have ih := val_shlL hs r x
    have h1 := shl_parts hs x
    simp only [shlL, lastOr, val, List.length_cons, W_succ, Nat.add_mul, Nat.mul_assoc]
    omega
theorem shlL_length (s : Nat) : ∀ (l : List Nat) (p : Nat), (shlL s p l).length = l.length
  | [], _ => rfl
  | x :: r, p => by simp [shlL, shlL_length s r x]
theorem shlL_get (s : Nat) : ∀ (l : List Nat) (p k x y : Nat), l[k + 1]? = some x → l[k]? = some y → (shlL s p l)[k + 1]? = some (x * 2 ^ s % 4294967296 + y / 2 ^ (32 - s))
  | [], _, _, _, _, h, _ => by simp at h
  | [a], _, 0, _, _, h, _ => by simp at h
  | a :: b :: r, p, 0, x, y, h, h2 => by simp at h h2; subst h; subst h2; simp [shlL]
  | a :: r, p, k + 1, x, y, h, h2 => by
    simp only [List.getElem?_cons_succ] at h h2
    simp only [shlL, List.getElem?_cons_succ]
    exact shlL_get s r a k x y h h2
theorem shl_lt {s x y : Nat} (hs : s < 32) (hy : y < 4294967296) : x * 2 ^ s % 4294967296 + y / 2 ^ (32 - s) < 4294967296 := by
  have e : (4294967296 : Nat) = 2 ^ (32 - s) * 2 ^ s := by rw [← Nat.pow_add, Nat.sub_add_cancel (by omega)]
  have h1 : x * 2 ^ s % 4294967296 = (x % 2 ^ (32 - s)) * 2 ^ s := by rw [e, Nat.mul_mod_mul_right]
  have h2 : y / 2 ^ (32 - s) < 2 ^ s := by rw [Nat.div_lt_iff_lt_mul (Nat.two_pow_pos _), Nat.mul_comm, ← e]; exact hy
  have h3 : x % 2 ^ (32 - s) < 2 ^ (32 - s) := Nat.mod_lt _ (Nat.two_pow_pos _)
  have h4 : (x % 2 ^ (32 - s) + 1) * 2 ^ s ≤ 2 ^ (32 - s) * 2 ^ s := Nat.mul_le_mul_right _ h3
  rw [← e, Nat.add_mul, Nat.one_mul] at h4
  omega
theorem shlL_bd {s : Nat} (hs : s < 32) : ∀ (l : List Nat) (p : Nat), Bd l → p < 4294967296 → Bd (shlL s p l)
  | [], _, _, _ => Bd.nil
  | x :: r, p, h, hp => Bd.cons (shl_lt hs hp) (shlL_bd hs r x (fun y hy => h y (by simp [hy])) (h x (by simp)))

/-- The two halves of a shifted limb do not meet. -/
theorem shl_or {s x y : Nat} (hs : s < 32) (hy : y < 4294967296) :
    bits .or .u32 ((x : Int) * 2 ^ s % 4294967296) ((y : Int) / 2 ^ (32 - s)) = ((x * 2 ^ s % 4294967296 + y / 2 ^ (32 - s) : Nat) : Int) := by
  have e : (4294967296 : Nat) = 2 ^ (32 - s) * 2 ^ s := by rw [← Nat.pow_add, Nat.sub_add_cancel (by omega)]
  have h2 : y / 2 ^ (32 - s) < 2 ^ s := by rw [Nat.div_lt_iff_lt_mul (Nat.two_pow_pos _), Nat.mul_comm, ← e]; exact hy
  have h3 : y / 2 ^ (32 - s) < 4294967296 := Nat.lt_of_le_of_lt (Nat.div_le_self _ _) hy
  have h4 : x * 2 ^ s % 4294967296 < 4294967296 := Nat.mod_lt _ (by omega)
  have h5 : x * 2 ^ s % 4294967296 % 2 ^ s = 0 := by rw [e, Nat.mul_mod_mul_right, Nat.mul_mod_left]
  have c1 : (x : Int) * 2 ^ s % 4294967296 = ((x * 2 ^ s % 4294967296 : Nat) : Int) := by simp
  have c2 : (y : Int) / 2 ^ (32 - s) = ((y / 2 ^ (32 - s) : Nat) : Int) := by simp
  rw [c1, c2, u32_or_nat _ _ h4 h3, nat_join s _ _ h5 h2]

/-- What the call may have written of what was there: the blocks in S. -/
structure Fr (S : Nat → Prop) (w w' : World) : Prop where
  os : w'.os = w.os
  tape : w'.tape = w.tape
  output : w'.output = w.output
  size : w.heap.size ≤ w'.heap.size
  block : ∀ k, k < w.heap.size → ¬ S k → w'.heap[k]? = w.heap[k]?
theorem Fr.of_below {S : Nat → Prop} {w w' : World} (h : Below w.heap.size w w') : Fr S w w' := ⟨h.os, h.tape, h.output, h.size, fun k hk _ => h.block k hk⟩
theorem Fr.only {S : Nat → Prop} {w w1 w' : World} {g : Nat} (h : Fr S w w1) (ho : Only g w1 w') (hg : g < w.heap.size → S g) : Fr S w w' :=
  ⟨ho.os.trans h.os, ho.tape.trans h.tape, ho.output.trans h.output, by rw [ho.size]; exact h.size, fun k hk hs => (ho.block k (fun e => hs (e ▸ hg (e ▸ hk)))).trans (h.block k hk hs)⟩

/-- What shifted leaves. -/
def ShiftR (base n : Nat) (v : Value) (N : List Nat) (w : World) (e : Ending) (w' : World) : Prop :=
  ∃ g c T, e = .returned (.slice (some ⟨g, 0, none⟩) n c) ∧ Buf w' g 75 (N ++ T) ∧ (N ++ T).length = c ∧ N.length = n ∧ c ≤ 9223372036854775807 ∧ base ≤ g ∧ Fr (fun k => v.ownBlock = some k) w w' ∧ (v.ownBlock = some g ∨ w.heap.size ≤ g)

theorem step_get {X S T : List Nat} {q x y : Nat} (hx : X[q + 1]? = some x) (hy : X[q]? = some y) : (X.take (q + 2) ++ S.drop (q + 2) ++ T)[q + 1]? = some x ∧ (X.take (q + 2) ++ S.drop (q + 2) ++ T)[q]? = some y := by
  have hl := (List.getElem?_eq_some_iff.1 hx).1
  have e : (X.take (q + 2)).length = q + 2 := by rw [List.length_take]; omega
  constructor
  · rw [List.append_assoc, List.getElem?_append_left (by omega), List.getElem?_take, if_pos (by omega)]; exact hx
  · rw [List.append_assoc, List.getElem?_append_left (by omega), List.getElem?_take, if_pos (by omega)]; exact hy
theorem step_set {X S T : List Nat} {q z : Nat} (hl : q + 1 < X.length) (hz : S[q + 1]? = some z) : (X.take (q + 2) ++ S.drop (q + 2) ++ T).set (q + 1) z = X.take (q + 1) ++ S.drop (q + 1) ++ T := by
  have e : (X.take (q + 1)).length = q + 1 := by rw [List.length_take]; omega
  rw [List.take_succ_eq_append_getElem hl, drop_get hz, List.append_assoc, List.append_assoc, List.set_append_right _ _ (by omega), e, Nat.sub_self]
  simp


set_option maxRecDepth 100000 in
set_option maxHeartbeats 2000000 in
theorem shifted_same (base n s : Nat) (A : Option Addr) (l X : List Nat) (nl v0c : Nat) (A2 : Option Addr) (c2 : Nat) (w : World) (ho : OwnL w base 75 (.slice A nl v0c) l) (hbase : base ≤ w.heap.size) (ha : Lim w w.heap.size A2 n c2 X) (h0 : 0 < n) (hnb : n ≤ 1073741824) (hs : s < 32) :
    Calls Tryz.prog 118 #[.slice A nl v0c, .slice A2 n c2, .int .i64 (n : Int), .int .i64 (s : Int)] w (ShiftR base n (.slice A nl v0c) (shlL s 0 X) w) := by
  obtain ⟨i0, hi0, hz0, hz1, hz2⟩ := info_parts info_u32
  have hsz : (Tryz.prog.info? 75).map (·.size) = some 1 := by rw [hi0, Option.map_some, hz1]
  have HX := Lib.hid ha.len
  have HXB := Lib.hid ha.bd
  have HHO := Lib.hid ho
  have hcl := fun A c w => clear_none (P := Tryz.prog) (ty := 0) Tryz.underlying22 A c w
  clear hz1 hz2 ho
  go_enter Tryz.func118, Tryz.ntmps118
  go_wp2_with fail
  refine (sized_own base n _ l _ HHO.out hbase h0 (by omega)).mono ?_
  rintro e w1 ⟨g, c, O, rfl, hO, hOl, hnc, hc9, hB, hbg, hor⟩
  have hcopy := copy_u32 (P := Tryz.prog) (ty := 3) Tryz.underlying22 hsz hO (a := X) (B := w.heap.size) (c2 := c2) (n := n) (c := c) (A := A2) (by rw [HX.out]; exact ha.below hB (Nat.le_refl _) (Nat.le_refl _)) (by rw [HX.out]; exact h0) (by rw [HX.out]; exact Nat.le_refl _) (by omega)
  rw [HX.out] at hcopy
  obtain ⟨T, hT⟩ : ∃ T, T = O.drop n := ⟨_, rfl⟩
  rw [← hT] at hcopy
  have hTb : Bd (X ++ T) := HXB.out.append (by rw [hT]; exact hO.bd.drop n)
  have HBUF := hO.setRow hTb
  have HON := (Only.refl g w1).setRow (u32s (X ++ T)).toArray
  have HLEN : Hid ((X ++ T).length = c) := by
    show _ = _
    rw [List.length_append, HX.out, hT, List.length_drop, hOl]; omega
  have HFR : Fr (fun k => (Value.slice A nl v0c).ownBlock = some k) w w1 := Fr.of_below hB
  have HG : g < w.heap.size → (Value.slice A nl v0c).ownBlock = some g := by
    intro hg
    rcases hor with ⟨h1, _⟩ | ⟨h1, _⟩
    · exact h1
    · omega
  have HOR : (Value.slice A nl v0c).ownBlock = some g ∨ w.heap.size ≤ g := by
    rcases hor with ⟨h1, _⟩ | ⟨h1, _⟩
    · exact .inl h1
    · exact .inr (by omega)
  have HG' := Lib.hid HG
  have HOR' := Lib.hid HOR
  clear hT hTb hO hOl HHO hor HG HOR
  by_cases hcn : c = n
  · obtain rfl : n = c := hcn.symm
    go_wp2
    have HG := HG'.out
    have HOR := HOR'.out
    go_loopw [9] (fun iv wr => ∃ j : Nat, j < n ∧ iv = .int .i64 (j : Int) ∧ Buf wr g 75 (X.take (j + 1) ++ (shlL s 0 X).drop (j + 1) ++ T) ∧ Only g w1 wr) (fun iv _ => (intOf iv).toNat)
    case atStart =>
      refine ⟨n - 1, by omega, by go_num, ?_, HON⟩
      rw [show n - 1 + 1 = n from by omega, List.take_of_length_le (l := X) (by rw [HX.out]; exact Nat.le_refl _), List.drop_of_length_le (l := shlL s 0 X) (by rw [shlL_length, HX.out]; exact Nat.le_refl _), List.append_nil]
      exact HBUF
    case round =>
      obtain ⟨j, hj, rfl, hbuf, hon⟩ := hrel
      rcases Nat.eq_zero_or_pos j with h00 | h00
      · subst h00
        obtain ⟨x, hx⟩ : ∃ x, X[0]? = some x := ⟨X[0]'(by rw [HX.out]; exact h0), List.getElem?_eq_getElem (by rw [HX.out]; exact h0)⟩
        obtain ⟨Xr, rfl⟩ : ∃ Xr, X = x :: Xr := by
          cases X with
          | nil => simp at hx
          | cons a r => simp at hx; exact ⟨r, by rw [hx]⟩
        obtain ⟨x', hx', hcx⟩ := hbuf.cell (k := 0) (by simp)
        obtain rfl : x' = x := by simpa using hx'.symm
        have hfx := hbuf.frozen 0
        have hset := hbuf.set_ 0 (x' * 2 ^ s % 4294967296) (Nat.mod_lt _ (by omega))
        have c1 : ((x' * 2 ^ s % 4294967296 : Nat) : Int) = (x' : Int) * 2 ^ s % 4294967296 := by simp
        rw [c1] at hset
        have HSET := Lib.hid hset
        clear hx hx' hset c1
        go_wp2
        go_ret
        have e9 : (List.take 1 (x' :: Xr) ++ (shlL s 0 (x' :: Xr)).drop 1 ++ T).set 0 (x' * 2 ^ s % 4294967296) = shlL s 0 (x' :: Xr) ++ T := by simp [shlL]
        have h9 := HSET.out
        rw [e9] at h9
        refine ⟨g, _, T, rfl, ?_, ?_, ?_, hc9, hbg, ?_, HOR⟩
        · exact h9
        · rw [List.length_append, shlL_length]; have := HLEN.out; rw [List.length_append] at this; exact this
        · rw [shlL_length]; exact HX.out
        · exact (HFR.only (hon.setCell 0 _) HG)
      · obtain ⟨q, rfl⟩ : ∃ q, j = q + 1 := ⟨j - 1, by omega⟩
        obtain ⟨x, hx⟩ : ∃ x, X[q + 1]? = some x := ⟨X[q + 1]'(by rw [HX.out]; exact hj), List.getElem?_eq_getElem (by rw [HX.out]; exact hj)⟩
        obtain ⟨y, hy⟩ : ∃ y, X[q]? = some y := ⟨X[q]'(by rw [HX.out]; omega), List.getElem?_eq_getElem (by rw [HX.out]; omega)⟩
        have hyb : y < 4294967296 := HXB.out y (List.mem_of_getElem? hy)
        obtain ⟨g1, g2⟩ := step_get (S := shlL s 0 X) (T := T) hx hy
        obtain ⟨x', hx', hcx⟩ := hbuf.cell (k := q + 1) (List.getElem?_eq_some_iff.1 g1).1
        obtain rfl : x' = x := by rw [g1] at hx'; exact (Option.some.inj hx').symm
        obtain ⟨y', hy', hcy⟩ := hbuf.cell (k := q) (List.getElem?_eq_some_iff.1 g2).1
        obtain rfl : y' = y := by rw [g2] at hy'; exact (Option.some.inj hy').symm
        have hfx := hbuf.frozen (q + 1)
        have hset := hbuf.set_ (q + 1) _ (shl_lt (x := x') hs hyb)
        rw [step_set (X := X) (T := T) (by rw [HX.out]; exact hj) (shlL_get s X 0 q x' y' hx hy)] at hset
        have hor := shl_or (x := x') hs hyb
        generalize x' * 2 ^ s % 4294967296 + y' / 2 ^ (32 - s) = z at hset hor
        have HSET := Lib.hid hset
        clear hx hy g1 g2 hx' hy' hset
        go_wp2
        go_region
        go_wp2
        go_roundw
        case rel => exact ⟨q, by omega, rfl, HSET.out.drew, (hon.setCell _ _).drew⟩
        case measure => simp [intOf]
  · have hcn2 : decide (c = n) = false := by simpa using hcn
    go_wp2
    have HG := HG'.out
    have HOR := HOR'.out
    go_loopw [9] (fun iv wr => ∃ j : Nat, j < n ∧ iv = .int .i64 (j : Int) ∧ Buf wr g 75 (X.take (j + 1) ++ (shlL s 0 X).drop (j + 1) ++ T) ∧ Only g w1 wr) (fun iv _ => (intOf iv).toNat)
    case atStart =>
      refine ⟨n - 1, by omega, by go_num, ?_, HON⟩
      rw [show n - 1 + 1 = n from by omega, List.take_of_length_le (l := X) (by rw [HX.out]; exact Nat.le_refl _), List.drop_of_length_le (l := shlL s 0 X) (by rw [shlL_length, HX.out]; exact Nat.le_refl _), List.append_nil]
      exact HBUF
    case round =>
      obtain ⟨j, hj, rfl, hbuf, hon⟩ := hrel
      rcases Nat.eq_zero_or_pos j with h00 | h00
      · subst h00
        obtain ⟨x, hx⟩ : ∃ x, X[0]? = some x := ⟨X[0]'(by rw [HX.out]; exact h0), List.getElem?_eq_getElem (by rw [HX.out]; exact h0)⟩
        obtain ⟨Xr, rfl⟩ : ∃ Xr, X = x :: Xr := by
          cases X with
          | nil => simp at hx
          | cons a r => simp at hx; exact ⟨r, by rw [hx]⟩
        obtain ⟨x', hx', hcx⟩ := hbuf.cell (k := 0) (by simp)
        obtain rfl : x' = x := by simpa using hx'.symm
        have hfx := hbuf.frozen 0
        have hset := hbuf.set_ 0 (x' * 2 ^ s % 4294967296) (Nat.mod_lt _ (by omega))
        have c1 : ((x' * 2 ^ s % 4294967296 : Nat) : Int) = (x' : Int) * 2 ^ s % 4294967296 := by simp
        rw [c1] at hset
        have HSET := Lib.hid hset
        clear hx hx' hset c1
        go_wp2
        go_ret
        have e9 : (List.take 1 (x' :: Xr) ++ (shlL s 0 (x' :: Xr)).drop 1 ++ T).set 0 (x' * 2 ^ s % 4294967296) = shlL s 0 (x' :: Xr) ++ T := by simp [shlL]
        have h9 := HSET.out
        rw [e9] at h9
        refine ⟨g, _, T, rfl, ?_, ?_, ?_, hc9, hbg, ?_, HOR⟩
        · exact h9
        · rw [List.length_append, shlL_length]; have := HLEN.out; rw [List.length_append] at this; exact this
        · rw [shlL_length]; exact HX.out
        · exact (HFR.only (hon.setCell 0 _) HG)
      · obtain ⟨q, rfl⟩ : ∃ q, j = q + 1 := ⟨j - 1, by omega⟩
        obtain ⟨x, hx⟩ : ∃ x, X[q + 1]? = some x := ⟨X[q + 1]'(by rw [HX.out]; exact hj), List.getElem?_eq_getElem (by rw [HX.out]; exact hj)⟩
        obtain ⟨y, hy⟩ : ∃ y, X[q]? = some y := ⟨X[q]'(by rw [HX.out]; omega), List.getElem?_eq_getElem (by rw [HX.out]; omega)⟩
        have hyb : y < 4294967296 := HXB.out y (List.mem_of_getElem? hy)
        obtain ⟨g1, g2⟩ := step_get (S := shlL s 0 X) (T := T) hx hy
        obtain ⟨x', hx', hcx⟩ := hbuf.cell (k := q + 1) (List.getElem?_eq_some_iff.1 g1).1
        obtain rfl : x' = x := by rw [g1] at hx'; exact (Option.some.inj hx').symm
        obtain ⟨y', hy', hcy⟩ := hbuf.cell (k := q) (List.getElem?_eq_some_iff.1 g2).1
        obtain rfl : y' = y := by rw [g2] at hy'; exact (Option.some.inj hy').symm
        have hfx := hbuf.frozen (q + 1)
        have hset := hbuf.set_ (q + 1) _ (shl_lt (x := x') hs hyb)
        rw [step_set (X := X) (T := T) (by rw [HX.out]; exact hj) (shlL_get s X 0 q x' y' hx hy)] at hset
        have hor := shl_or (x := x') hs hyb
        generalize x' * 2 ^ s % 4294967296 + y' / 2 ^ (32 - s) = z at hset hor
        have HSET := Lib.hid hset
        clear hx hy g1 g2 hx' hy' hset
        go_wp2
        go_region
        go_wp2
        go_roundw
        case rel => exact ⟨q, by omega, rfl, HSET.out.drew, (hon.setCell _ _).drew⟩
        case measure => simp [intOf]

set_option maxRecDepth 100000 in
set_option maxHeartbeats 2000000 in
theorem shifted_more (base n m s : Nat) (A : Option Addr) (l a : List Nat) (nl v0c : Nat) (A2 : Option Addr) (c2 : Nat) (w : World) (ho : OwnL w base 75 (.slice A nl v0c) l) (hbase : base ≤ w.heap.size) (ha : Lim w w.heap.size A2 m c2 a) (hmn : n = m + 1) (hm0 : 0 < m) (hnb : n ≤ 1073741824) (hs : s < 32) :
    Calls Tryz.prog 118 #[.slice A nl v0c, .slice A2 m c2, .int .i64 (n : Int), .int .i64 (s : Int)] w (ShiftR base n (.slice A nl v0c) (shlL s 0 (a ++ [0])) w) := by
  obtain ⟨i0, hi0, hz0, hz1, hz2⟩ := info_parts info_u32
  have hsz : (Tryz.prog.info? 75).map (·.size) = some 1 := by rw [hi0, Option.map_some, hz1]
  have h0 : 0 < n := by omega
  have hal := Lib.hid ha.len
  have hab := Lib.hid ha.bd
  have HMN := Lib.hid hmn
  have hmn1 : m < n := by omega
  have HHO := Lib.hid ho
  clear hz1 hz2 ho hmn
  obtain ⟨X, hX⟩ : ∃ X, X = a ++ [0] := ⟨_, rfl⟩
  rw [← hX]
  have HXE := Lib.hid hX
  clear hX
  go_enter Tryz.func118, Tryz.ntmps118
  go_wp2_with fail
  refine (sized_own base n _ l _ HHO.out hbase h0 (by omega)).mono ?_
  rintro e w1 ⟨g, c, O, rfl, hO, hOl, hnc, hc9, hB, hbg, hor⟩
  have hcopy := copy_u32 (P := Tryz.prog) (ty := 3) Tryz.underlying22 hsz hO (a := a) (B := w.heap.size) (c2 := c2) (n := n) (c := c) (A := A2) (by rw [hal.out]; exact ha.below hB (Nat.le_refl _) (Nat.le_refl _)) (by rw [hal.out]; exact hm0) (by rw [hal.out]; omega) (by omega)
  rw [hal.out] at hcopy
  have hb1 : Bd (a ++ O.drop m) := hab.out.append (hO.bd.drop m)
  have hO1 := hO.setRow hb1
  have hclear := clear_one (P := Tryz.prog) (ty := 0) (m := m) (c := c - m) Tryz.underlying22 hi0 hz0 hO1 (by rw [List.length_append, hal.out, List.length_drop]; omega)
  obtain ⟨T, hT⟩ : ∃ T, T = O.drop n := ⟨_, rfl⟩
  have hX := HXE.out
  have HX : Hid (X.length = n) := by show _ = _; rw [hX, List.length_append, hal.out, HMN.out]; rfl
  have hXb : Bd X := by rw [hX]; exact hab.out.append (Bd.nil.cons (by omega))
  have HXB := Lib.hid hXb
  have e8 : (a ++ O.drop m).set m 0 = X ++ T := by
    have hg : O[m]? = some (O[m]'(by omega)) := List.getElem?_eq_getElem (by omega)
    generalize O[m]'(by omega) = z at hg
    have hn1 : O.drop n = O.drop (m + 1) := congrArg (fun i => O.drop i) HMN.out
    rw [drop_get hg, List.set_append_right _ _ (by rw [hal.out]; exact Nat.le_refl _), hal.out, Nat.sub_self, hX, hT, hn1]
    simp
  rw [e8, ← (show n - m = 1 from by have := HMN.out; omega)] at hclear
  have hTb : Bd (X ++ T) := hXb.append (by rw [hT]; exact hO.bd.drop n)
  have HBUF := hO1.setRow hTb
  have HON := ((Only.refl g w1).setRow (u32s (a ++ O.drop m)).toArray).setRow (u32s (X ++ T)).toArray
  have HLEN : Hid ((X ++ T).length = c) := by
    show _ = _
    rw [List.length_append, HX.out, hT, List.length_drop, hOl]; omega
  have HFR : Fr (fun k => (Value.slice A nl v0c).ownBlock = some k) w w1 := Fr.of_below hB
  have HG : g < w.heap.size → (Value.slice A nl v0c).ownBlock = some g := by
    intro hg
    rcases hor with ⟨h1, _⟩ | ⟨h1, _⟩
    · exact h1
    · omega
  have HOR : (Value.slice A nl v0c).ownBlock = some g ∨ w.heap.size ≤ g := by
    rcases hor with ⟨h1, _⟩ | ⟨h1, _⟩
    · exact .inl h1
    · exact .inr (by omega)
  have HG' := Lib.hid HG
  have HOR' := Lib.hid HOR
  clear hT hX hTb hXb hO hO1 hb1 e8 hOl HHO hor HG HOR
  have hcn2 : decide (c = m) = false := by simp; omega
  have hcn3 : ¬ c = m := by omega
  go_wp2
  all_goals
    have HG := HG'.out
    have HOR := HOR'.out
    go_loopw [9] (fun iv wr => ∃ j : Nat, j < n ∧ iv = .int .i64 (j : Int) ∧ Buf wr g 75 (X.take (j + 1) ++ (shlL s 0 X).drop (j + 1) ++ T) ∧ Only g w1 wr) (fun iv _ => (intOf iv).toNat)
    case atStart =>
      refine ⟨n - 1, by omega, by go_num, ?_, HON⟩
      rw [show n - 1 + 1 = n from by omega, List.take_of_length_le (l := X) (by rw [HX.out]; exact Nat.le_refl _), List.drop_of_length_le (l := shlL s 0 X) (by rw [shlL_length, HX.out]; exact Nat.le_refl _), List.append_nil]
      exact HBUF
    case round =>
      obtain ⟨j, hj, rfl, hbuf, hon⟩ := hrel
      rcases Nat.eq_zero_or_pos j with h00 | h00
      · subst h00
        obtain ⟨x, hx⟩ : ∃ x, X[0]? = some x := ⟨X[0]'(by rw [HX.out]; exact h0), List.getElem?_eq_getElem (by rw [HX.out]; exact h0)⟩
        obtain ⟨Xr, rfl⟩ : ∃ Xr, X = x :: Xr := by
          cases X with
          | nil => simp at hx
          | cons a r => simp at hx; exact ⟨r, by rw [hx]⟩
        obtain ⟨x', hx', hcx⟩ := hbuf.cell (k := 0) (by simp)
        obtain rfl : x' = x := by simpa using hx'.symm
        have hfx := hbuf.frozen 0
        have hset := hbuf.set_ 0 (x' * 2 ^ s % 4294967296) (Nat.mod_lt _ (by omega))
        have c1 : ((x' * 2 ^ s % 4294967296 : Nat) : Int) = (x' : Int) * 2 ^ s % 4294967296 := by simp
        rw [c1] at hset
        have HSET := Lib.hid hset
        clear hx hx' hset c1
        go_wp2
        go_ret
        have e9 : (List.take 1 (x' :: Xr) ++ (shlL s 0 (x' :: Xr)).drop 1 ++ T).set 0 (x' * 2 ^ s % 4294967296) = shlL s 0 (x' :: Xr) ++ T := by simp [shlL]
        have h9 := HSET.out
        rw [e9] at h9
        refine ⟨g, _, T, rfl, ?_, ?_, ?_, hc9, hbg, ?_, HOR⟩
        · exact h9
        · rw [List.length_append, shlL_length]; have := HLEN.out; rw [List.length_append] at this; exact this
        · rw [shlL_length]; exact HX.out
        · exact (HFR.only (hon.setCell 0 _) HG)
      · obtain ⟨q, rfl⟩ : ∃ q, j = q + 1 := ⟨j - 1, by omega⟩
        obtain ⟨x, hx⟩ : ∃ x, X[q + 1]? = some x := ⟨X[q + 1]'(by rw [HX.out]; exact hj), List.getElem?_eq_getElem (by rw [HX.out]; exact hj)⟩
        obtain ⟨y, hy⟩ : ∃ y, X[q]? = some y := ⟨X[q]'(by rw [HX.out]; omega), List.getElem?_eq_getElem (by rw [HX.out]; omega)⟩
        have hyb : y < 4294967296 := HXB.out y (List.mem_of_getElem? hy)
        obtain ⟨g1, g2⟩ := step_get (S := shlL s 0 X) (T := T) hx hy
        obtain ⟨x', hx', hcx⟩ := hbuf.cell (k := q + 1) (List.getElem?_eq_some_iff.1 g1).1
        obtain rfl : x' = x := by rw [g1] at hx'; exact (Option.some.inj hx').symm
        obtain ⟨y', hy', hcy⟩ := hbuf.cell (k := q) (List.getElem?_eq_some_iff.1 g2).1
        obtain rfl : y' = y := by rw [g2] at hy'; exact (Option.some.inj hy').symm
        have hfx := hbuf.frozen (q + 1)
        have hset := hbuf.set_ (q + 1) _ (shl_lt (x := x') hs hyb)
        rw [step_set (X := X) (T := T) (by rw [HX.out]; exact hj) (shlL_get s X 0 q x' y' hx hy)] at hset
        have hor := shl_or (x := x') hs hyb
        generalize x' * 2 ^ s % 4294967296 + y' / 2 ^ (32 - s) = z at hset hor
        have HSET := Lib.hid hset
        clear hx hy g1 g2 hx' hy' hset
        go_wp2
        go_region
        go_wp2
        go_roundw
        case rel => exact ⟨q, by omega, rfl, HSET.out.drew, (hon.setCell _ _).drew⟩
        case measure => simp [intOf]

end Go.Proofs.YtfnibkodccfocaaGreat
