/- Several texts in one. -/
import Derived.Test.YthlfhfkfjefidaaGreatLimG
import Derived.Laws.CopyRow
import Derived.Laws.CopyOwn
import Derived.RegionTactic
import Derived.Deep.QuietTactic
import Derived.BigQuiet
import Derived.Laws.ShiftsVarLaws
/- The walks of shifted and shiftBack: limbs times, and divided by, a power of two. -/
namespace Go.Proofs.YthlfhfkfjefidaaGreat
open Go.RowKit
def SizedR (base n : Nat) (v : Value) (w : World) (e : Ending) (w' : World) : Prop :=
 ∃ g c O, e = .returned (.slice (some ⟨g, 0, none⟩) n c) ∧ Buf w' g 81 O ∧ O.length = c ∧ n ≤ c ∧ c ≤ 9223372036854775807 ∧ Below w.heap.size w w' ∧ base ≤ g ∧ ((v.ownBlock = some g ∧ w' = w) ∨ (g = w.heap.size ∧ w'.heap.size = w.heap.size + 1))
theorem sized_own (base n : Nat) (v : Value) (l : List Nat) (w : World) (h : OwnL w base 81 v l) (hb : base ≤ w.heap.size) (h0 : 0 < n) (hn : n ≤ 1099511627776) :
 Calls Tryz.prog 132 #[v, .int .i64 (n : Int)] w (SizedR base n v w) := by
 rcases h with ⟨rfl, rfl⟩ | ⟨g, n0, c, O, rfl, hbg, hbuf, hO, hn0, hc, rfl⟩
 · refine (sized_new none 0 0 n w h0 hn).mono ?_
   rintro e w' ⟨rfl, rfl⟩
   exact ⟨w.heap.size, n, List.replicate n 0, rfl, ⟨Bk.alloc_ _ _ _, Bd.replicate _⟩, List.length_replicate, Nat.le_refl _, by omega, (Below.refl _ _).alloc (Nat.le_refl _) _, hb, .inr ⟨rfl, by simp⟩⟩
 · rcases Nat.lt_or_ge c n with hlt | hge
   · refine (sized_new _ n0 c n w hlt hn).mono ?_
     rintro e w' ⟨rfl, rfl⟩
     exact ⟨w.heap.size, n, List.replicate n 0, rfl, ⟨Bk.alloc_ _ _ _, Bd.replicate _⟩, List.length_replicate, Nat.le_refl _, by omega, (Below.refl _ _).alloc (Nat.le_refl _) _, hb, .inr ⟨rfl, by simp⟩⟩
   · refine (sized_same _ n0 c n w hge).mono ?_
     rintro e w' ⟨rfl, rfl⟩
     exact ⟨g, c, O, rfl, hbuf, hO, hge, hc, Below.refl _ _, hbg, .inl ⟨rfl, rfl⟩⟩
theorem Buf.setRow {w : World} {g : Nat} {t : TypeId} {O : List Nat} (h : Buf w g t O) {N : List Nat} (hN : Bd N) : Buf (w.setRow g (u32s N).toArray) g t N := ⟨setRow_heap w g _ _ t _ h.bk, hN⟩
theorem Only.setRow {g : Nat} {a b : World} (h : Only g a b) (cs : Array Value) : Only g a (b.setRow g cs) :=
 h.trans ⟨rfl, rfl, rfl, by simp [World.setRow], fun k hk => setRow_other b g k cs hk⟩
theorem copy_u32 {P : Program} {T e ty : TypeId} (ht : P.underlying T = some (.slice e)) (hs : (P.info? e).map (·.size) = some 1) {w : World} {g t : Nat} {O a : List Nat} (hO : Buf w g t O) {B c2 n c : Nat} {A : Option Addr} (ha : Lim w B A a.length c2 a) (h0 : 0 < a.length) (hn : a.length ≤ n) (hnO : n ≤ O.length) :
 (Builtin.copy_ #[T, T] ty #[.slice (some ⟨g, 0, none⟩) n c, .slice A a.length c2]).run P w = .ok (goInt a.length) (w.setRow g (u32s (a ++ O.drop a.length)).toArray) := by
 obtain ⟨b, o, rfl, _, hc⟩ := ha.addr h0
 have hr := run_copy_row (P := P) w T T ty e g 0 n c ⟨b, o, none⟩ a.length c2 _ t (u32s a) ht hs hO.bk (by rw [u32s_length]; exact (Nat.min_eq_left hn).symm)
  (by intro j u hu; rw [Addr.add_lit]; rw [u32s_get?] at hu; cases hj : a[j]? with
    | none => rw [hj] at hu; cases hu
    | some x => rw [hj] at hu; cases hu; exact hc j x hj)
  (by simp [u32s]; omega) (u32s_one a)
 rw [hr, u32s_length]
 congr 3
 simp [u32s, List.map_drop]
theorem clear_none {P : Program} {T e ty : TypeId} (ht : P.underlying T = some (.slice e)) (A : Option Addr) (c : Nat) (w : World) : (Builtin.clear_ #[T] ty #[.slice A 0 c]).run P w = .ok (.tuple #[]) w := by
 cases A <;> simp [Builtin.clear_, run_underlying ht]
theorem clear_one {P : Program} {T e ty : TypeId} {i : TypeInfo} (ht : P.underlying T = some (.slice e)) (hi : P.info? e = some i) (hz : i.zero = some (.int .u32 0)) {w : World} {g t : Nat} {O : List Nat} (hO : Buf w g t O) {m c : Nat} (hm : m < O.length) :
 (Builtin.clear_ #[T] ty #[.slice (some ⟨g, m, none⟩) 1 c]).run P w = .ok (.tuple #[]) (w.setRow g (u32s (O.set m 0)).toArray) := by
 have hst := run_storeCells_at P g m t [.int .u32 0] 0 _ w hO.bk (by simp [u32s]; omega) (by simp [Value.oneCell'])
 have e1 : (Builtin.zeroCells (Value.int IntKind.u32 0).cells 1).toList = [.int .u32 0] := by simp [zero_cells, u32s]
 simp [Builtin.clear_, run_underlying ht, zeroValue, typeInfo, hi, hz, e1, hst]
 congr 2
 have : O.set m 0 = O.take m ++ 0 :: O.drop (m + 1) := by rw [List.set_eq_take_append_cons_drop, if_pos hm]
 rw [this]
 simp [u32s, List.map_take, List.map_drop]
end Go.Proofs.YthlfhfkfjefidaaGreat
/- Shifts of limbs, in plain numbers; the loop of shifted. -/
namespace Go.Proofs.YthlfhfkfjefidaaGreat
open Go.RowKit
def shlL (s : Nat) : Nat → List Nat → List Nat
 | _, [] => []
 | p, x :: r => (x * 2 ^ s % 4294967296 + p / 2 ^ (32 - s)) :: shlL s x r
def lastOr : Nat → List Nat → Nat
 | p, [] => p
 | _, x :: r => lastOr x r
theorem shl_parts {s : Nat} (hs : s ≤ 32) (x : Nat) : x * 2 ^ s % 4294967296 + 4294967296 * (x / 2 ^ (32 - s)) = x * 2 ^ s := by
 have e : (4294967296 : Nat) = 2 ^ (32 - s) * 2 ^ s := by rw [← Nat.pow_add, Nat.sub_add_cancel hs]
 have h1 : x * 2 ^ s / 4294967296 = x / 2 ^ (32 - s) := by
  rw [e, Nat.mul_div_mul_right _ _ (Nat.two_pow_pos s)]
 rw [← h1]
 exact Nat.mod_add_div _ _
theorem val_shlL {s : Nat} (hs : s ≤ 32) : ∀ (l : List Nat) (p : Nat), val (shlL s p l) + W l.length * (lastOr p l / 2 ^ (32 - s)) = p / 2 ^ (32 - s) + val l * 2 ^ s
 | [], p => by simp [shlL, lastOr, val, W_zero]
 | x :: r, p => by
   have ih := val_shlL hs r x
   have h1 := shl_parts hs x
   simp only [shlL, lastOr, val, List.length_cons, W_succ, Nat.add_mul, Nat.mul_assoc]
   omega
theorem shlL_length (s : Nat) : ∀ (l : List Nat) (p : Nat), (shlL s p l).length = l.length
 | [], _ => rfl
 | x :: r, p => by simp [shlL, shlL_length s r x]
theorem shlL_get (s : Nat) : ∀ (l : List Nat) (p k x y : Nat), l[k + 1]? = some x → l[k]? = some y → (shlL s p l)[k + 1]? = some (x * 2 ^ s % 4294967296 + y / 2 ^ (32 - s))
 | [], _, _, _, _, h, _ => by simp at h
 | [a], _, 0, _, _, h, _ => by simp at h
 | a :: b :: r, p, 0, x, y, h, h2 => by simp at h h2; subst h; subst h2; simp [shlL]
 | a :: r, p, k + 1, x, y, h, h2 => by
   simp only [List.getElem?_cons_succ] at h h2
   simp only [shlL, List.getElem?_cons_succ]
   exact shlL_get s r a k x y h h2
theorem shl_lt {s x y : Nat} (hs : s < 32) (hy : y < 4294967296) : x * 2 ^ s % 4294967296 + y / 2 ^ (32 - s) < 4294967296 := by
 have e : (4294967296 : Nat) = 2 ^ (32 - s) * 2 ^ s := by rw [← Nat.pow_add, Nat.sub_add_cancel (by omega)]
 have h1 : x * 2 ^ s % 4294967296 = (x % 2 ^ (32 - s)) * 2 ^ s := by rw [e, Nat.mul_mod_mul_right]
 have h2 : y / 2 ^ (32 - s) < 2 ^ s := by rw [Nat.div_lt_iff_lt_mul (Nat.two_pow_pos _), Nat.mul_comm, ← e]; exact hy
 have h3 : x % 2 ^ (32 - s) < 2 ^ (32 - s) := Nat.mod_lt _ (Nat.two_pow_pos _)
 have h4 : (x % 2 ^ (32 - s) + 1) * 2 ^ s ≤ 2 ^ (32 - s) * 2 ^ s := Nat.mul_le_mul_right _ h3
 rw [← e, Nat.add_mul, Nat.one_mul] at h4
 omega
theorem shlL_bd {s : Nat} (hs : s < 32) : ∀ (l : List Nat) (p : Nat), Bd l → p < 4294967296 → Bd (shlL s p l)
 | [], _, _, _ => Bd.nil
 | x :: r, p, h, hp => Bd.cons (shl_lt hs hp) (shlL_bd hs r x (fun y hy => h y (by simp [hy])) (h x (by simp)))
theorem shl_or {s x y : Nat} (hs : s < 32) (hy : y < 4294967296) :
 bits .or .u32 ((x : Int) * 2 ^ s % 4294967296) ((y : Int) / 2 ^ (32 - s)) = ((x * 2 ^ s % 4294967296 + y / 2 ^ (32 - s) : Nat) : Int) := by
 have e : (4294967296 : Nat) = 2 ^ (32 - s) * 2 ^ s := by rw [← Nat.pow_add, Nat.sub_add_cancel (by omega)]
 have h2 : y / 2 ^ (32 - s) < 2 ^ s := by rw [Nat.div_lt_iff_lt_mul (Nat.two_pow_pos _), Nat.mul_comm, ← e]; exact hy
 have h3 : y / 2 ^ (32 - s) < 4294967296 := Nat.lt_of_le_of_lt (Nat.div_le_self _ _) hy
 have h4 : x * 2 ^ s % 4294967296 < 4294967296 := Nat.mod_lt _ (by omega)
 have h5 : x * 2 ^ s % 4294967296 % 2 ^ s = 0 := by rw [e, Nat.mul_mod_mul_right, Nat.mul_mod_left]
 have c1 : (x : Int) * 2 ^ s % 4294967296 = ((x * 2 ^ s % 4294967296 : Nat) : Int) := by simp
 have c2 : (y : Int) / 2 ^ (32 - s) = ((y / 2 ^ (32 - s) : Nat) : Int) := by simp
 rw [c1, c2, u32_or_nat _ _ h4 h3, nat_join s _ _ h5 h2]
structure Fr (S : Nat → Prop) (w w' : World) : Prop where
 os : w'.os = w.os
 tape : w'.tape = w.tape
 output : w'.output = w.output
 size : w.heap.size ≤ w'.heap.size
 block : ∀ k, k < w.heap.size → ¬ S k → w'.heap[k]? = w.heap[k]?
theorem Fr.of_below {S : Nat → Prop} {w w' : World} (h : Below w.heap.size w w') : Fr S w w' := ⟨h.os, h.tape, h.output, h.size, fun k hk _ => h.block k hk⟩
theorem Fr.only {S : Nat → Prop} {w w1 w' : World} {g : Nat} (h : Fr S w w1) (ho : Only g w1 w') (hg : g < w.heap.size → S g) : Fr S w w' :=
 ⟨ho.os.trans h.os, ho.tape.trans h.tape, ho.output.trans h.output, by rw [ho.size]; exact h.size, fun k hk hs => (ho.block k (fun e => hs (e ▸ hg (e ▸ hk)))).trans (h.block k hk hs)⟩
def ShiftR (base n : Nat) (v : Value) (N : List Nat) (w : World) (e : Ending) (w' : World) : Prop :=
 ∃ g c T, e = .returned (.slice (some ⟨g, 0, none⟩) n c) ∧ Buf w' g 81 (N ++ T) ∧ (N ++ T).length = c ∧ N.length = n ∧ c ≤ 9223372036854775807 ∧ base ≤ g ∧ Fr (fun k => v.ownBlock = some k) w w' ∧ (v.ownBlock = some g ∨ w.heap.size ≤ g)
theorem step_get {X S T : List Nat} {q x y : Nat} (hx : X[q + 1]? = some x) (hy : X[q]? = some y) : (X.take (q + 2) ++ S.drop (q + 2) ++ T)[q + 1]? = some x ∧ (X.take (q + 2) ++ S.drop (q + 2) ++ T)[q]? = some y := by
 have hl := (List.getElem?_eq_some_iff.1 hx).1
 have e : (X.take (q + 2)).length = q + 2 := by rw [List.length_take]; omega
 constructor
 · rw [List.append_assoc, List.getElem?_append_left (by omega), List.getElem?_take, if_pos (by omega)]; exact hx
 · rw [List.append_assoc, List.getElem?_append_left (by omega), List.getElem?_take, if_pos (by omega)]; exact hy
theorem step_set {X S T : List Nat} {q z : Nat} (hl : q + 1 < X.length) (hz : S[q + 1]? = some z) : (X.take (q + 2) ++ S.drop (q + 2) ++ T).set (q + 1) z = X.take (q + 1) ++ S.drop (q + 1) ++ T := by
 have e : (X.take (q + 1)).length = q + 1 := by rw [List.length_take]; omega
 rw [List.take_succ_eq_append_getElem hl, drop_get hz, List.append_assoc, List.append_assoc, List.set_append_right _ _ (by omega), e, Nat.sub_self]
 simp
set_option maxRecDepth 100000 in
set_option maxHeartbeats 2000000 in
theorem shifted_same (base n s : Nat) (A : Option Addr) (l X : List Nat) (nl v0c : Nat) (A2 : Option Addr) (c2 : Nat) (w : World) (ho : OwnL w base 81 (.slice A nl v0c) l) (hbase : base ≤ w.heap.size) (ha : Lim w w.heap.size A2 n c2 X) (h0 : 0 < n) (hnb : n ≤ 1073741824) (hs : s < 32) :
 Calls Tryz.prog 131 #[.slice A nl v0c, .slice A2 n c2, .int .i64 (n : Int), .int .i64 (s : Int)] w (ShiftR base n (.slice A nl v0c) (shlL s 0 X) w) := by
 obtain ⟨i0, hi0, hz0, hz1, hz2⟩ := info_parts info_u32
 have hsz : (Tryz.prog.info? 81).map (·.size) = some 1 := by rw [hi0, Option.map_some, hz1]
 have HX := Lib.hid ha.len
 have HXB := Lib.hid ha.bd
 have HHO := Lib.hid ho
 have hcl := fun A c w => clear_none (P := Tryz.prog) (ty := 0) Tryz.underlying22 A c w
 clear hz1 hz2 ho
 go_enter Tryz.func131, Tryz.ntmps131
 go_wp2_with fail
 refine (sized_own base n _ l _ HHO.out hbase h0 (by omega)).mono ?_
 rintro e w1 ⟨g, c, O, rfl, hO, hOl, hnc, hc9, hB, hbg, hor⟩
 have hcopy := copy_u32 (P := Tryz.prog) (ty := 3) Tryz.underlying22 hsz hO (a := X) (B := w.heap.size) (c2 := c2) (n := n) (c := c) (A := A2) (by rw [HX.out]; exact ha.below hB (Nat.le_refl _) (Nat.le_refl _)) (by rw [HX.out]; exact h0) (by rw [HX.out]; exact Nat.le_refl _) (by omega)
 rw [HX.out] at hcopy
 obtain ⟨T, hT⟩ : ∃ T, T = O.drop n := ⟨_, rfl⟩
 rw [← hT] at hcopy
 have hTb : Bd (X ++ T) := HXB.out.append (by rw [hT]; exact hO.bd.drop n)
 have HBUF := hO.setRow hTb
 have HON := (Only.refl g w1).setRow (u32s (X ++ T)).toArray
 have HLEN : Hid ((X ++ T).length = c) := by
  show _ = _
  rw [List.length_append, HX.out, hT, List.length_drop, hOl]; omega
 have HFR : Fr (fun k => (Value.slice A nl v0c).ownBlock = some k) w w1 := Fr.of_below hB
 have HG : g < w.heap.size → (Value.slice A nl v0c).ownBlock = some g := by
  intro hg
  rcases hor with ⟨h1, _⟩ | ⟨h1, _⟩
  · exact h1
  · omega
 have HOR : (Value.slice A nl v0c).ownBlock = some g ∨ w.heap.size ≤ g := by
  rcases hor with ⟨h1, _⟩ | ⟨h1, _⟩
  · exact .inl h1
  · exact .inr (by omega)
 have HG' := Lib.hid HG
 have HOR' := Lib.hid HOR
 clear hT hTb hO hOl HHO hor HG HOR
 by_cases hcn : c = n
 · obtain rfl : n = c := hcn.symm
   go_wp2
   have HG := HG'.out
   have HOR := HOR'.out
   go_loopw [9] (fun iv wr => ∃ j : Nat, j < n ∧ iv = .int .i64 (j : Int) ∧ Buf wr g 81 (X.take (j + 1) ++ (shlL s 0 X).drop (j + 1) ++ T) ∧ Only g w1 wr) (fun iv _ => (intOf iv).toNat)
   case atStart =>
    refine ⟨n - 1, by omega, by go_num, ?_, HON⟩
    rw [show n - 1 + 1 = n from by omega, List.take_of_length_le (l := X) (by rw [HX.out]; exact Nat.le_refl _), List.drop_of_length_le (l := shlL s 0 X) (by rw [shlL_length, HX.out]; exact Nat.le_refl _), List.append_nil]
    exact HBUF
   case round =>
    obtain ⟨j, hj, rfl, hbuf, hon⟩ := hrel
    rcases Nat.eq_zero_or_pos j with h00 | h00
    · subst h00
      obtain ⟨x, hx⟩ : ∃ x, X[0]? = some x := ⟨X[0]'(by rw [HX.out]; exact h0), List.getElem?_eq_getElem (by rw [HX.out]; exact h0)⟩
      obtain ⟨Xr, rfl⟩ : ∃ Xr, X = x :: Xr := by
       cases X with
       | nil => simp at hx
       | cons a r => simp at hx; exact ⟨r, by rw [hx]⟩
      obtain ⟨x', hx', hcx⟩ := hbuf.cell (k := 0) (by simp)
      obtain rfl : x' = x := by simpa using hx'.symm
      have hfx := hbuf.frozen 0
      have hset := hbuf.set_ 0 (x' * 2 ^ s % 4294967296) (Nat.mod_lt _ (by omega))
      have c1 : ((x' * 2 ^ s % 4294967296 : Nat) : Int) = (x' : Int) * 2 ^ s % 4294967296 := by simp
      rw [c1] at hset
      have HSET := Lib.hid hset
      clear hx hx' hset c1
      go_wp2
      go_ret
      have e9 : (List.take 1 (x' :: Xr) ++ (shlL s 0 (x' :: Xr)).drop 1 ++ T).set 0 (x' * 2 ^ s % 4294967296) = shlL s 0 (x' :: Xr) ++ T := by simp [shlL]
      have h9 := HSET.out
      rw [e9] at h9
      refine ⟨g, _, T, rfl, ?_, ?_, ?_, hc9, hbg, ?_, HOR⟩
      · exact h9
      · rw [List.length_append, shlL_length]; have := HLEN.out; rw [List.length_append] at this; exact this
      · rw [shlL_length]; exact HX.out
      · exact (HFR.only (hon.setCell 0 _) HG)
    · obtain ⟨q, rfl⟩ : ∃ q, j = q + 1 := ⟨j - 1, by omega⟩
      obtain ⟨x, hx⟩ : ∃ x, X[q + 1]? = some x := ⟨X[q + 1]'(by rw [HX.out]; exact hj), List.getElem?_eq_getElem (by rw [HX.out]; exact hj)⟩
      obtain ⟨y, hy⟩ : ∃ y, X[q]? = some y := ⟨X[q]'(by rw [HX.out]; omega), List.getElem?_eq_getElem (by rw [HX.out]; omega)⟩
      have hyb : y < 4294967296 := HXB.out y (List.mem_of_getElem? hy)
      obtain ⟨g1, g2⟩ := step_get (S := shlL s 0 X) (T := T) hx hy
      obtain ⟨x', hx', hcx⟩ := hbuf.cell (k := q + 1) (List.getElem?_eq_some_iff.1 g1).1
      obtain rfl : x' = x := by rw [g1] at hx'; exact (Option.some.inj hx').symm
      obtain ⟨y', hy', hcy⟩ := hbuf.cell (k := q) (List.getElem?_eq_some_iff.1 g2).1
      obtain rfl : y' = y := by rw [g2] at hy'; exact (Option.some.inj hy').symm
      have hfx := hbuf.frozen (q + 1)
      have hset := hbuf.set_ (q + 1) _ (shl_lt (x := x') hs hyb)
      rw [step_set (X := X) (T := T) (by rw [HX.out]; exact hj) (shlL_get s X 0 q x' y' hx hy)] at hset
      have hor := shl_or (x := x') hs hyb
      generalize x' * 2 ^ s % 4294967296 + y' / 2 ^ (32 - s) = z at hset hor
      have HSET := Lib.hid hset
      clear hx hy g1 g2 hx' hy' hset
      go_wp2
      go_region
      go_wp2
      go_roundw
      case rel => exact ⟨q, by omega, rfl, HSET.out.drew, (hon.setCell _ _).drew⟩
      case measure => simp [intOf]
 · have hcn2 : decide (c = n) = false := by simpa using hcn
   go_wp2
   have HG := HG'.out
   have HOR := HOR'.out
   go_loopw [9] (fun iv wr => ∃ j : Nat, j < n ∧ iv = .int .i64 (j : Int) ∧ Buf wr g 81 (X.take (j + 1) ++ (shlL s 0 X).drop (j + 1) ++ T) ∧ Only g w1 wr) (fun iv _ => (intOf iv).toNat)
   case atStart =>
    refine ⟨n - 1, by omega, by go_num, ?_, HON⟩
    rw [show n - 1 + 1 = n from by omega, List.take_of_length_le (l := X) (by rw [HX.out]; exact Nat.le_refl _), List.drop_of_length_le (l := shlL s 0 X) (by rw [shlL_length, HX.out]; exact Nat.le_refl _), List.append_nil]
    exact HBUF
   case round =>
    obtain ⟨j, hj, rfl, hbuf, hon⟩ := hrel
    rcases Nat.eq_zero_or_pos j with h00 | h00
    · subst h00
      obtain ⟨x, hx⟩ : ∃ x, X[0]? = some x := ⟨X[0]'(by rw [HX.out]; exact h0), List.getElem?_eq_getElem (by rw [HX.out]; exact h0)⟩
      obtain ⟨Xr, rfl⟩ : ∃ Xr, X = x :: Xr := by
       cases X with
       | nil => simp at hx
       | cons a r => simp at hx; exact ⟨r, by rw [hx]⟩
      obtain ⟨x', hx', hcx⟩ := hbuf.cell (k := 0) (by simp)
      obtain rfl : x' = x := by simpa using hx'.symm
      have hfx := hbuf.frozen 0
      have hset := hbuf.set_ 0 (x' * 2 ^ s % 4294967296) (Nat.mod_lt _ (by omega))
      have c1 : ((x' * 2 ^ s % 4294967296 : Nat) : Int) = (x' : Int) * 2 ^ s % 4294967296 := by simp
      rw [c1] at hset
      have HSET := Lib.hid hset
      clear hx hx' hset c1
      go_wp2
      go_ret
      have e9 : (List.take 1 (x' :: Xr) ++ (shlL s 0 (x' :: Xr)).drop 1 ++ T).set 0 (x' * 2 ^ s % 4294967296) = shlL s 0 (x' :: Xr) ++ T := by simp [shlL]
      have h9 := HSET.out
      rw [e9] at h9
      refine ⟨g, _, T, rfl, ?_, ?_, ?_, hc9, hbg, ?_, HOR⟩
      · exact h9
      · rw [List.length_append, shlL_length]; have := HLEN.out; rw [List.length_append] at this; exact this
      · rw [shlL_length]; exact HX.out
      · exact (HFR.only (hon.setCell 0 _) HG)
    · obtain ⟨q, rfl⟩ : ∃ q, j = q + 1 := ⟨j - 1, by omega⟩
      obtain ⟨x, hx⟩ : ∃ x, X[q + 1]? = some x := ⟨X[q + 1]'(by rw [HX.out]; exact hj), List.getElem?_eq_getElem (by rw [HX.out]; exact hj)⟩
      obtain ⟨y, hy⟩ : ∃ y, X[q]? = some y := ⟨X[q]'(by rw [HX.out]; omega), List.getElem?_eq_getElem (by rw [HX.out]; omega)⟩
      have hyb : y < 4294967296 := HXB.out y (List.mem_of_getElem? hy)
      obtain ⟨g1, g2⟩ := step_get (S := shlL s 0 X) (T := T) hx hy
      obtain ⟨x', hx', hcx⟩ := hbuf.cell (k := q + 1) (List.getElem?_eq_some_iff.1 g1).1
      obtain rfl : x' = x := by rw [g1] at hx'; exact (Option.some.inj hx').symm
      obtain ⟨y', hy', hcy⟩ := hbuf.cell (k := q) (List.getElem?_eq_some_iff.1 g2).1
      obtain rfl : y' = y := by rw [g2] at hy'; exact (Option.some.inj hy').symm
      have hfx := hbuf.frozen (q + 1)
      have hset := hbuf.set_ (q + 1) _ (shl_lt (x := x') hs hyb)
      rw [step_set (X := X) (T := T) (by rw [HX.out]; exact hj) (shlL_get s X 0 q x' y' hx hy)] at hset
      have hor := shl_or (x := x') hs hyb
      generalize x' * 2 ^ s % 4294967296 + y' / 2 ^ (32 - s) = z at hset hor
      have HSET := Lib.hid hset
      clear hx hy g1 g2 hx' hy' hset
      go_wp2
      go_region
      go_wp2
      go_roundw
      case rel => exact ⟨q, by omega, rfl, HSET.out.drew, (hon.setCell _ _).drew⟩
      case measure => simp [intOf]
set_option maxRecDepth 100000 in
set_option maxHeartbeats 2000000 in
theorem shifted_more (base n m s : Nat) (A : Option Addr) (l a : List Nat) (nl v0c : Nat) (A2 : Option Addr) (c2 : Nat) (w : World) (ho : OwnL w base 81 (.slice A nl v0c) l) (hbase : base ≤ w.heap.size) (ha : Lim w w.heap.size A2 m c2 a) (hmn : n = m + 1) (hm0 : 0 < m) (hnb : n ≤ 1073741824) (hs : s < 32) :
 Calls Tryz.prog 131 #[.slice A nl v0c, .slice A2 m c2, .int .i64 (n : Int), .int .i64 (s : Int)] w (ShiftR base n (.slice A nl v0c) (shlL s 0 (a ++ [0])) w) := by
 obtain ⟨i0, hi0, hz0, hz1, hz2⟩ := info_parts info_u32
 have hsz : (Tryz.prog.info? 81).map (·.size) = some 1 := by rw [hi0, Option.map_some, hz1]
 have h0 : 0 < n := by omega
 have hal := Lib.hid ha.len
 have hab := Lib.hid ha.bd
 have HMN := Lib.hid hmn
 have hmn1 : m < n := by omega
 have HHO := Lib.hid ho
 clear hz1 hz2 ho hmn
 obtain ⟨X, hX⟩ : ∃ X, X = a ++ [0] := ⟨_, rfl⟩
 rw [← hX]
 have HXE := Lib.hid hX
 clear hX
 go_enter Tryz.func131, Tryz.ntmps131
 go_wp2_with fail
 refine (sized_own base n _ l _ HHO.out hbase h0 (by omega)).mono ?_
 rintro e w1 ⟨g, c, O, rfl, hO, hOl, hnc, hc9, hB, hbg, hor⟩
 have hcopy := copy_u32 (P := Tryz.prog) (ty := 3) Tryz.underlying22 hsz hO (a := a) (B := w.heap.size) (c2 := c2) (n := n) (c := c) (A := A2) (by rw [hal.out]; exact ha.below hB (Nat.le_refl _) (Nat.le_refl _)) (by rw [hal.out]; exact hm0) (by rw [hal.out]; omega) (by omega)
 rw [hal.out] at hcopy
 have hb1 : Bd (a ++ O.drop m) := hab.out.append (hO.bd.drop m)
 have hO1 := hO.setRow hb1
 have hclear := clear_one (P := Tryz.prog) (ty := 0) (m := m) (c := c - m) Tryz.underlying22 hi0 hz0 hO1 (by rw [List.length_append, hal.out, List.length_drop]; omega)
 obtain ⟨T, hT⟩ : ∃ T, T = O.drop n := ⟨_, rfl⟩
 have hX := HXE.out
 have HX : Hid (X.length = n) := by show _ = _; rw [hX, List.length_append, hal.out, HMN.out]; rfl
 have hXb : Bd X := by rw [hX]; exact hab.out.append (Bd.nil.cons (by omega))
 have HXB := Lib.hid hXb
 have e8 : (a ++ O.drop m).set m 0 = X ++ T := by
  have hg : O[m]? = some (O[m]'(by omega)) := List.getElem?_eq_getElem (by omega)
  generalize O[m]'(by omega) = z at hg
  have hn1 : O.drop n = O.drop (m + 1) := congrArg (fun i => O.drop i) HMN.out
  rw [drop_get hg, List.set_append_right _ _ (by rw [hal.out]; exact Nat.le_refl _), hal.out, Nat.sub_self, hX, hT, hn1]
  simp
 rw [e8, ← (show n - m = 1 from by have := HMN.out; omega)] at hclear
 have hTb : Bd (X ++ T) := hXb.append (by rw [hT]; exact hO.bd.drop n)
 have HBUF := hO1.setRow hTb
 have HON := ((Only.refl g w1).setRow (u32s (a ++ O.drop m)).toArray).setRow (u32s (X ++ T)).toArray
 have HLEN : Hid ((X ++ T).length = c) := by
  show _ = _
  rw [List.length_append, HX.out, hT, List.length_drop, hOl]; omega
 have HFR : Fr (fun k => (Value.slice A nl v0c).ownBlock = some k) w w1 := Fr.of_below hB
 have HG : g < w.heap.size → (Value.slice A nl v0c).ownBlock = some g := by
  intro hg
  rcases hor with ⟨h1, _⟩ | ⟨h1, _⟩
  · exact h1
  · omega
 have HOR : (Value.slice A nl v0c).ownBlock = some g ∨ w.heap.size ≤ g := by
  rcases hor with ⟨h1, _⟩ | ⟨h1, _⟩
  · exact .inl h1
  · exact .inr (by omega)
 have HG' := Lib.hid HG
 have HOR' := Lib.hid HOR
 clear hT hX hTb hXb hO hO1 hb1 e8 hOl HHO hor HG HOR
 have hcn2 : decide (c = m) = false := by simp; omega
 have hcn3 : ¬ c = m := by omega
 go_wp2
 all_goals
  have HG := HG'.out
  have HOR := HOR'.out
  go_loopw [9] (fun iv wr => ∃ j : Nat, j < n ∧ iv = .int .i64 (j : Int) ∧ Buf wr g 81 (X.take (j + 1) ++ (shlL s 0 X).drop (j + 1) ++ T) ∧ Only g w1 wr) (fun iv _ => (intOf iv).toNat)
  case atStart =>
   refine ⟨n - 1, by omega, by go_num, ?_, HON⟩
   rw [show n - 1 + 1 = n from by omega, List.take_of_length_le (l := X) (by rw [HX.out]; exact Nat.le_refl _), List.drop_of_length_le (l := shlL s 0 X) (by rw [shlL_length, HX.out]; exact Nat.le_refl _), List.append_nil]
   exact HBUF
  case round =>
   obtain ⟨j, hj, rfl, hbuf, hon⟩ := hrel
   rcases Nat.eq_zero_or_pos j with h00 | h00
   · subst h00
     obtain ⟨x, hx⟩ : ∃ x, X[0]? = some x := ⟨X[0]'(by rw [HX.out]; exact h0), List.getElem?_eq_getElem (by rw [HX.out]; exact h0)⟩
     obtain ⟨Xr, rfl⟩ : ∃ Xr, X = x :: Xr := by
      cases X with
      | nil => simp at hx
      | cons a r => simp at hx; exact ⟨r, by rw [hx]⟩
     obtain ⟨x', hx', hcx⟩ := hbuf.cell (k := 0) (by simp)
     obtain rfl : x' = x := by simpa using hx'.symm
     have hfx := hbuf.frozen 0
     have hset := hbuf.set_ 0 (x' * 2 ^ s % 4294967296) (Nat.mod_lt _ (by omega))
     have c1 : ((x' * 2 ^ s % 4294967296 : Nat) : Int) = (x' : Int) * 2 ^ s % 4294967296 := by simp
     rw [c1] at hset
     have HSET := Lib.hid hset
     clear hx hx' hset c1
     go_wp2
     go_ret
     have e9 : (List.take 1 (x' :: Xr) ++ (shlL s 0 (x' :: Xr)).drop 1 ++ T).set 0 (x' * 2 ^ s % 4294967296) = shlL s 0 (x' :: Xr) ++ T := by simp [shlL]
     have h9 := HSET.out
     rw [e9] at h9
     refine ⟨g, _, T, rfl, ?_, ?_, ?_, hc9, hbg, ?_, HOR⟩
     · exact h9
     · rw [List.length_append, shlL_length]; have := HLEN.out; rw [List.length_append] at this; exact this
     · rw [shlL_length]; exact HX.out
     · exact (HFR.only (hon.setCell 0 _) HG)
   · obtain ⟨q, rfl⟩ : ∃ q, j = q + 1 := ⟨j - 1, by omega⟩
     obtain ⟨x, hx⟩ : ∃ x, X[q + 1]? = some x := ⟨X[q + 1]'(by rw [HX.out]; exact hj), List.getElem?_eq_getElem (by rw [HX.out]; exact hj)⟩
     obtain ⟨y, hy⟩ : ∃ y, X[q]? = some y := ⟨X[q]'(by rw [HX.out]; omega), List.getElem?_eq_getElem (by rw [HX.out]; omega)⟩
     have hyb : y < 4294967296 := HXB.out y (List.mem_of_getElem? hy)
     obtain ⟨g1, g2⟩ := step_get (S := shlL s 0 X) (T := T) hx hy
     obtain ⟨x', hx', hcx⟩ := hbuf.cell (k := q + 1) (List.getElem?_eq_some_iff.1 g1).1
     obtain rfl : x' = x := by rw [g1] at hx'; exact (Option.some.inj hx').symm
     obtain ⟨y', hy', hcy⟩ := hbuf.cell (k := q) (List.getElem?_eq_some_iff.1 g2).1
     obtain rfl : y' = y := by rw [g2] at hy'; exact (Option.some.inj hy').symm
     have hfx := hbuf.frozen (q + 1)
     have hset := hbuf.set_ (q + 1) _ (shl_lt (x := x') hs hyb)
     rw [step_set (X := X) (T := T) (by rw [HX.out]; exact hj) (shlL_get s X 0 q x' y' hx hy)] at hset
     have hor := shl_or (x := x') hs hyb
     generalize x' * 2 ^ s % 4294967296 + y' / 2 ^ (32 - s) = z at hset hor
     have HSET := Lib.hid hset
     clear hx hy g1 g2 hx' hy' hset
     go_wp2
     go_region
     go_wp2
     go_roundw
     case rel => exact ⟨q, by omega, rfl, HSET.out.drew, (hon.setCell _ _).drew⟩
     case measure => simp [intOf]
end Go.Proofs.YthlfhfkfjefidaaGreat
/- The walk of shiftBack: limbs divided by a power of two, in place. -/
namespace Go.Proofs.YthlfhfkfjefidaaGreat
open Go.RowKit
def shrL (s : Nat) : List Nat → List Nat
 | [] => []
 | [x] => [x / 2 ^ s]
 | x :: y :: r => (x / 2 ^ s + y * 2 ^ (32 - s) % 4294967296) :: shrL s (y :: r)
theorem shr_mod {s : Nat} (hs : s ≤ 32) (y : Nat) : y * 2 ^ (32 - s) % 4294967296 * 2 ^ s = 4294967296 * (y % 2 ^ s) := by
 have e : (4294967296 : Nat) = 2 ^ s * 2 ^ (32 - s) := by rw [← Nat.pow_add, Nat.add_comm, Nat.sub_add_cancel hs]
 rw [e, Nat.mul_mod_mul_right, Nat.mul_assoc, Nat.mul_comm (2 ^ (32 - s)), Nat.mul_comm]
theorem val_shrL {s : Nat} (hs : s ≤ 32) : ∀ (l : List Nat) (x : Nat), val (shrL s (x :: l)) * 2 ^ s + x % 2 ^ s = val (x :: l)
 | [], x => by
   have := Nat.div_add_mod x (2 ^ s)
   simp only [shrL, val, Nat.mul_zero, Nat.add_zero]
   rw [Nat.mul_comm]; exact this
 | y :: r, x => by
   have ih := val_shrL hs r y
   have h1 := shr_mod hs y
   have h2 := Nat.div_add_mod x (2 ^ s)
   rw [Nat.mul_comm] at h2
   simp only [shrL, val_cons x, val_cons (x / 2 ^ s + _), Nat.add_mul, Nat.mul_assoc] at *
   rw [← ih]
   omega
theorem shrL_length (s : Nat) : ∀ l : List Nat, (shrL s l).length = l.length
 | [] => rfl
 | [x] => rfl
 | x :: y :: r => by simp [shrL, shrL_length s (y :: r)]
theorem shrL_get (s : Nat) : ∀ (l : List Nat) (k x y : Nat), l[k]? = some x → l[k + 1]? = some y → (shrL s l)[k]? = some (x / 2 ^ s + y * 2 ^ (32 - s) % 4294967296)
 | [], _, _, _, h, _ => by simp at h
 | [a], k, x, y, _, h2 => by simp at h2
 | a :: b :: r, 0, x, y, h, h2 => by simp at h h2; subst h; subst h2; simp [shrL]
 | a :: b :: r, k + 1, x, y, h, h2 => by
   simp only [List.getElem?_cons_succ] at h h2
   simp only [shrL, List.getElem?_cons_succ]
   exact shrL_get s (b :: r) k x y h h2
theorem shrL_last (s : Nat) : ∀ (l : List Nat) (k x : Nat), l[k]? = some x → l.length = k + 1 → (shrL s l)[k]? = some (x / 2 ^ s)
 | [], _, _, h, _ => by simp at h
 | [a], 0, x, h, _ => by simp at h; subst h; simp [shrL]
 | [a], k + 1, x, h, hl => by simp at hl
 | a :: b :: r, 0, x, h, hl => by simp at hl
 | a :: b :: r, k + 1, x, h, hl => by
   simp only [List.getElem?_cons_succ] at h
   simp only [shrL, List.getElem?_cons_succ]
   exact shrL_last s (b :: r) k x h (by simpa using hl)
theorem shr_lt {s x y : Nat} (hs : s < 32) (hx : x < 4294967296) : x / 2 ^ s + y * 2 ^ (32 - s) % 4294967296 < 4294967296 := by
 have e : (4294967296 : Nat) = 2 ^ s * 2 ^ (32 - s) := by rw [← Nat.pow_add, Nat.add_comm, Nat.sub_add_cancel (by omega)]
 have h1 : y * 2 ^ (32 - s) % 4294967296 = (y % 2 ^ s) * 2 ^ (32 - s) := by rw [e, Nat.mul_mod_mul_right]
 have h2 : x / 2 ^ s < 2 ^ (32 - s) := by rw [Nat.div_lt_iff_lt_mul (Nat.two_pow_pos _), Nat.mul_comm, ← e]; exact hx
 have h3 : y % 2 ^ s < 2 ^ s := Nat.mod_lt _ (Nat.two_pow_pos _)
 have h4 : (y % 2 ^ s + 1) * 2 ^ (32 - s) ≤ 2 ^ s * 2 ^ (32 - s) := Nat.mul_le_mul_right _ h3
 rw [← e, Nat.add_mul, Nat.one_mul] at h4
 omega
theorem shr_or {s x y : Nat} (hs : s < 32) (hx : x < 4294967296) :
 bits .or .u32 ((x : Int) / 2 ^ s) ((y : Int) * 2 ^ (32 - s) % 4294967296) = ((x / 2 ^ s + y * 2 ^ (32 - s) % 4294967296 : Nat) : Int) := by
 have e : (4294967296 : Nat) = 2 ^ s * 2 ^ (32 - s) := by rw [← Nat.pow_add, Nat.add_comm, Nat.sub_add_cancel (by omega)]
 have h2 : x / 2 ^ s < 2 ^ (32 - s) := by rw [Nat.div_lt_iff_lt_mul (Nat.two_pow_pos _), Nat.mul_comm, ← e]; exact hx
 have h3 : x / 2 ^ s < 4294967296 := Nat.lt_of_le_of_lt (Nat.div_le_self _ _) hx
 have h4 : y * 2 ^ (32 - s) % 4294967296 < 4294967296 := Nat.mod_lt _ (by omega)
 have h5 : y * 2 ^ (32 - s) % 4294967296 % 2 ^ (32 - s) = 0 := by rw [e, Nat.mul_mod_mul_right, Nat.mul_mod_left]
 have c1 : (y : Int) * 2 ^ (32 - s) % 4294967296 = ((y * 2 ^ (32 - s) % 4294967296 : Nat) : Int) := by simp
 have c2 : (x : Int) / 2 ^ s = ((x / 2 ^ s : Nat) : Int) := by simp
 rw [c1, c2, u32_or_nat _ _ h3 h4, Nat.or_comm, nat_join (32 - s) _ _ h5 h2, Nat.add_comm]
theorem back_get {X S T : List Nat} {q x : Nat} (hS : S.length = X.length) (hx : X[q]? = some x) : (S.take q ++ X.drop q ++ T)[q]? = some x := by
 have hl := (List.getElem?_eq_some_iff.1 hx).1
 have e : (S.take q).length = q := by rw [List.length_take]; omega
 rw [List.append_assoc, List.getElem?_append_right (by omega), e, Nat.sub_self, drop_get hx]; rfl
theorem back_next {X S T : List Nat} {q y : Nat} (hS : S.length = X.length) (hy : X[q + 1]? = some y) : (S.take q ++ X.drop q ++ T)[q + 1]? = some y := by
 have hl := (List.getElem?_eq_some_iff.1 hy).1
 have e : (S.take q).length = q := by rw [List.length_take]; omega
 rw [List.append_assoc, List.getElem?_append_right (by omega), e, Nat.add_sub_cancel_left, List.getElem?_append_left (by rw [List.length_drop]; omega), List.getElem?_drop]; exact hy
theorem back_set {X S T : List Nat} {q x z : Nat} (hS : S.length = X.length) (hx : X[q]? = some x) (hz : S[q]? = some z) : (S.take q ++ X.drop q ++ T).set q z = S.take (q + 1) ++ X.drop (q + 1) ++ T := by
 have hl := (List.getElem?_eq_some_iff.1 hx).1
 obtain ⟨hzl, rfl⟩ := List.getElem?_eq_some_iff.1 hz
 have e : (S.take q).length = q := by rw [List.length_take]; omega
 rw [List.append_assoc, List.set_append_right _ _ (by omega), e, Nat.sub_self, drop_get hx, List.take_succ_eq_append_getElem hzl]
 generalize S[q] = z
 simp
set_option maxRecDepth 100000 in
set_option maxHeartbeats 2000000 in
theorem shiftBack_any (g n c s : Nat) (X T : List Nat) (w : World) (hO : Buf w g 81 (X ++ T)) (hX : X.length = n) (h0 : 0 < n) (hnc : n ≤ c) (hnb : n ≤ 1073741824) (hs : s < 32) :
 Calls Tryz.prog 134 #[.slice (some ⟨g, 0, none⟩) n c, .int .i64 (s : Int)] w fun e w' => e = .returned (.tuple #[]) ∧ Buf w' g 81 (shrL s X ++ T) ∧ Only g w w' := by
 have HX := Lib.hid hX
 have HXB : Hid (Bd X) := fun x hx => hO.bd x (by simp [hx])
 obtain ⟨S, hS⟩ : ∃ S, S = shrL s X := ⟨_, rfl⟩
 have hSl : Hid (S.length = X.length) := by show _ = _; rw [hS, shrL_length]
 rw [← hS]
 have HS := Lib.hid hS
 clear hS hX
 go_enter Tryz.func134, Tryz.ntmps134
 go_wp2
 go_loopw [8] (fun iv wr => ∃ j : Nat, j < n ∧ iv = .int .i64 (j : Int) ∧ Buf wr g 81 (S.take j ++ X.drop j ++ T) ∧ Only g w wr) (fun iv _ => n - (intOf iv).toNat)
 case atStart => exact ⟨0, h0, rfl, by simpa using hO, Only.refl _ _⟩
 case round =>
  obtain ⟨j, hj, rfl, hbuf, hon⟩ := hrel
  obtain ⟨x, hx⟩ : ∃ x, X[j]? = some x := ⟨X[j]'(by rw [HX.out]; exact hj), List.getElem?_eq_getElem (by rw [HX.out]; exact hj)⟩
  have hxb : x < 4294967296 := HXB.out x (List.mem_of_getElem? hx)
  have g1 := back_get (T := T) hSl.out hx
  obtain ⟨x', hx', hcx⟩ := hbuf.cell (k := j) (List.getElem?_eq_some_iff.1 g1).1
  obtain rfl : x' = x := by rw [g1] at hx'; exact (Option.some.inj hx').symm
  have hfx := hbuf.frozen j
  by_cases hlt : j + 1 < n
  · obtain ⟨y, hy⟩ : ∃ y, X[j + 1]? = some y := ⟨X[j + 1]'(by rw [HX.out]; exact hlt), List.getElem?_eq_getElem (by rw [HX.out]; exact hlt)⟩
    have g2 := back_next (T := T) hSl.out hy
    obtain ⟨y', hy', hcy⟩ := hbuf.cell (k := j + 1) (List.getElem?_eq_some_iff.1 g2).1
    obtain rfl : y' = y := by rw [g2] at hy'; exact (Option.some.inj hy').symm
    have hset := hbuf.set_ j _ (shr_lt (y := y') hs hxb)
    rw [back_set (T := T) hSl.out hx (by rw [HS.out]; exact shrL_get s X j x' y' hx hy)] at hset
    have hor := shr_or (y := y') hs hxb
    generalize x' / 2 ^ s + y' * 2 ^ (32 - s) % 4294967296 = z at hset hor
    have HSET := Lib.hid hset
    clear hx hy g1 g2 hx' hy' hset
    go_wp2
    go_region
    go_wp2
    go_roundw
    case rel => exact ⟨j + 1, hlt, by go_num, HSET.out.drew, (hon.setCell _ _).drew⟩
    case measure => simp [intOf]; omega
  · have hn : n = j + 1 := by omega
    have hset := hbuf.set_ j (x' / 2 ^ s) (Nat.lt_of_le_of_lt (Nat.div_le_self _ _) hxb)
    rw [back_set (T := T) hSl.out hx (by rw [HS.out]; exact shrL_last s X j x' hx (by rw [HX.out, hn]))] at hset
    have c1 : ((x' / 2 ^ s : Nat) : Int) = (x' : Int) / 2 ^ s := by simp
    rw [c1] at hset
    have e1 : S.take (j + 1) ++ X.drop (j + 1) ++ T = S ++ T := by
     rw [List.take_of_length_le (by rw [hSl.out, HX.out, hn]; exact Nat.le_refl _), List.drop_of_length_le (by rw [HX.out, hn]; exact Nat.le_refl _), List.append_nil]
    rw [e1] at hset
    have HSET := Lib.hid hset
    clear hx g1 hx' hset c1 e1
    subst hn
    go_wp2
    go_end0
    exact ⟨rfl, HSET.out, hon.setCell _ _⟩
end Go.Proofs.YthlfhfkfjefidaaGreat
