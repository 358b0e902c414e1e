/- Several texts in one. -/
import Derived.Test.YthlfhfkfjefidaaGreatBas1
import Derived.Deep.AppendLies
import Derived.Laws.OwnMore
import Derived.Maps.AppendAt
import Derived.OwnWalk
/- The reference's integers in plain lists: columns to the base 65536, each with its sign. -/
namespace Go.Proofs.YthlfhfkfjefidaaGreat
def valc : List Int → Int
 | [] => 0
 | x :: r => x + 65536 * valc r
theorem valc_append : ∀ a b : List Int, valc (a ++ b) = valc a + 65536 ^ a.length * valc b
 | [], b => by simp [valc]
 | x :: r, b => by
   have ih := valc_append r b
   simp only [List.cons_append, valc, ih, List.length_cons, Int.pow_succ]
   grind
def sgn (s : Bool) : Int := if s then -1 else 1
def cols (s : Bool) : List Nat → List Int
 | [] => []
 | x :: r => sgn s * ((x % 65536 : Nat) : Int) :: sgn s * ((x / 65536 : Nat) : Int) :: cols s r
theorem cols_length (s : Bool) : ∀ l : List Nat, (cols s l).length = 2 * l.length
 | [] => rfl
 | x :: r => by simp [cols, cols_length s r]; omega
theorem valc_cols (s : Bool) : ∀ l : List Nat, valc (cols s l) = sg s (val l)
 | [] => by cases s <;> rfl
 | x :: r => by
   have ih := valc_cols s r
   cases s
   · simp only [cols, valc, sgn, sg, val] at ih ⊢
     simp at ih ⊢
     rw [ih]
     omega
   · simp only [cols, valc, sgn, sg, val] at ih ⊢
     simp at ih ⊢
     rw [ih]
     omega
theorem cols_bd (s : Bool) : ∀ l : List Nat, Bd l → ∀ y ∈ cols s l, -65536 < y ∧ y < 65536
 | [], _, y, h => by simp [cols] at h
 | x :: r, hb, y, h => by
   have hx := hb x (by simp)
   have h1 : x % 65536 < 65536 := Nat.mod_lt _ (by omega)
   have h2 : x / 65536 < 65536 := by omega
   simp only [cols, List.mem_cons] at h
   rcases h with rfl | rfl | h
   · cases s <;> simp [sgn] <;> omega
   · cases s <;> simp [sgn] <;> omega
   · exact cols_bd s r (fun z hz => hb z (by simp [hz])) y h
def carr : Int → List Int → List Int
 | _, [] => []
 | k, x :: r => (x + k) % 65536 :: carr ((x + k) / 65536) r
def carrK : Int → List Int → Int
 | k, [] => k
 | k, x :: r => carrK ((x + k) / 65536) r
theorem carr_length : ∀ (c : List Int) (k : Int), (carr k c).length = c.length
 | [], _ => rfl
 | x :: r, k => by simp [carr, carr_length r]
theorem carr_val : ∀ (c : List Int) (k : Int), valc (carr k c) + 65536 ^ c.length * carrK k c = valc c + k
 | [], k => by simp [carr, carrK, valc]
 | x :: r, k => by
   have ih := carr_val r ((x + k) / 65536)
   have hd := Int.emod_add_mul_ediv (x + k) 65536
   simp only [carr, carrK, valc, List.length_cons, Int.pow_succ]
   grind
theorem carr_in : ∀ (c : List Int) (k y : Int), y ∈ carr k c → 0 ≤ y ∧ y < 65536
 | [], _, _, h => by simp [carr] at h
 | x :: r, k, y, h => by
   simp only [carr, List.mem_cons] at h
   rcases h with rfl | h
   · omega
   · exact carr_in r _ y h
theorem carrK_bd {B : Int} (hB : 1 ≤ B) : ∀ (c : List Int) (k : Int), (∀ y ∈ c, -B ≤ y ∧ y ≤ B) → -B ≤ k → k ≤ B → -B ≤ carrK k c ∧ carrK k c ≤ B
 | [], k, _, h1, h2 => ⟨h1, h2⟩
 | x :: r, k, hc, h1, h2 => by
   have hx := hc x (by simp)
   exact carrK_bd hB r _ (fun y hy => hc y (by simp [hy])) (by omega) (by omega)
theorem valc_in : ∀ c : List Int, (∀ y ∈ c, 0 ≤ y ∧ y < 65536) → 0 ≤ valc c ∧ valc c < 65536 ^ c.length
 | [], _ => by simp [valc]
 | x :: r, h => by
   have hx := h x (by simp)
   obtain ⟨h1, h2⟩ := valc_in r (fun y hy => h y (by simp [hy]))
   simp only [valc, List.length_cons, Int.pow_succ]
   omega
def spr : Nat → Nat → List Int
 | 0, _ => []
 | f + 1, n => if n = 0 then [] else ((n % 65536 : Nat) : Int) :: spr f (n / 65536)
theorem spr_val : ∀ f n : Nat, n < 65536 ^ f → valc (spr f n) = (n : Int)
 | 0, n, h => by simp at h; subst h; rfl
 | f + 1, n, h => by
   unfold spr
   split
   · rename_i h0; subst h0; rfl
   · have ih := spr_val f (n / 65536) (by rw [Nat.pow_succ] at h; exact Nat.div_lt_of_lt_mul (by rw [Nat.mul_comm]; exact h))
     rw [valc, ih]
     omega
theorem spr_in : ∀ (f n : Nat) (y : Int), y ∈ spr f n → 0 ≤ y ∧ y < 65536
 | 0, _, _, h => by simp [spr] at h
 | f + 1, n, y, h => by
   unfold spr at h
   split at h
   · simp at h
   · simp only [List.mem_cons] at h
     rcases h with rfl | h
     · have := Nat.mod_lt n (show 0 < 65536 by omega); omega
     · exact spr_in f _ y h
def pack : List Int → List Nat
 | [] => []
 | [x] => [x.toNat]
 | x :: y :: r => (x + 65536 * y).toNat :: pack r
theorem pack_val : ∀ c : List Int, (∀ y ∈ c, 0 ≤ y ∧ y < 65536) → ((val (pack c) : Nat) : Int) = valc c
 | [], _ => by simp [pack, val, valc]
 | [x], h => by
   have hx := h x (by simp)
   simp only [pack, val, valc]
   omega
 | x :: y :: r, h => by
   have hx := h x (by simp)
   have hy := h y (by simp)
   have ih := pack_val r (fun z hz => h z (by simp [hz]))
   simp only [pack, val, valc]
   omega
theorem pack_bd : ∀ c : List Int, (∀ y ∈ c, 0 ≤ y ∧ y < 65536) → Bd (pack c)
 | [], _ => Bd.nil
 | [x], h => Bd.cons (by have hx := h x (by simp); omega) Bd.nil
 | x :: y :: r, h => Bd.cons (by have hx := h x (by simp); have hy := h y (by simp); omega) (pack_bd r (fun z hz => h z (by simp [hz])))
theorem valc_neg : ∀ c : List Int, valc (c.map fun x => -x) = -valc c
 | [] => rfl
 | x :: r => by simp only [List.map_cons, valc, valc_neg r]; omega
theorem carr_neg {c : List Int} (h : carrK 0 c < 0) : 0 ≤ carrK 0 (c.map fun x => -x) := by
 have h1 := carr_val c 0
 have h2 := carr_val (c.map fun x => -x) 0
 have b1 := (valc_in _ (carr_in c 0)).2
 have b2 := (valc_in _ (carr_in (c.map fun x => -x) 0)).2
 rw [carr_length] at b1 b2
 rw [valc_neg, List.length_map] at h2
 rw [List.length_map] at b2
 have hp : (0 : Int) < 65536 ^ c.length := Int.pow_pos (by omega)
 have h3 : (65536 : Int) ^ c.length * carrK 0 c ≤ 65536 ^ c.length * (-1) := Int.mul_le_mul_of_nonneg_left (by omega) (by omega)
 rcases Int.lt_or_le (carrK 0 (c.map fun x => -x)) 0 with h4 | h4
 · have h5 : (65536 : Int) ^ c.length * carrK 0 (c.map fun x => -x) ≤ 65536 ^ c.length * (-1) := Int.mul_le_mul_of_nonneg_left (by omega) (by omega)
   omega
 · exact h4
theorem settled_val {c : List Int} {f : Nat} (hk : 0 ≤ carrK 0 c) (hf : (carrK 0 c).toNat < 65536 ^ f) : ((val (pack (carr 0 c ++ spr f (carrK 0 c).toNat)) : Nat) : Int) = valc c := by
 have h1 := carr_val c 0
 rw [pack_val _ (fun y hy => by
  rcases List.mem_append.1 hy with h | h
  · exact carr_in c 0 y h
  · exact spr_in _ _ y h), valc_append, carr_length, spr_val _ _ hf, Int.toNat_of_nonneg hk]
 omega
end Go.Proofs.YthlfhfkfjefidaaGreat
/- Columns added and multiplied, in plain lists. -/
namespace Go.Proofs.YthlfhfkfjefidaaGreat
def sumU (f : Nat → Int) : Nat → Int
 | 0 => 0
 | m + 1 => f 0 + 65536 * sumU (fun i => f (i + 1)) m
theorem sumU_congr : ∀ (m : Nat) (f g : Nat → Int), (∀ i, i < m → f i = g i) → sumU f m = sumU g m
 | 0, _, _, _ => rfl
 | m + 1, f, g, h => by
   simp only [sumU]
   rw [h 0 (by omega), sumU_congr m _ _ (fun i hi => h (i + 1) (by omega))]
theorem sumU_zero : ∀ m : Nat, sumU (fun _ => 0) m = 0
 | 0 => rfl
 | m + 1 => by simp only [sumU, sumU_zero m]; rfl
theorem sumU_add : ∀ (m : Nat) (f g : Nat → Int), sumU (fun i => f i + g i) m = sumU f m + sumU g m
 | 0, _, _ => rfl
 | m + 1, f, g => by
   simp only [sumU]
   rw [sumU_add m (fun i => f (i + 1)) (fun i => g (i + 1))]
   omega
theorem sumU_mul (x : Int) : ∀ (m : Nat) (f : Nat → Int), sumU (fun i => x * f i) m = x * sumU f m
 | 0, _ => by simp [sumU]
 | m + 1, f => by
   simp only [sumU]
   rw [sumU_mul x m (fun i => f (i + 1))]
   grind
theorem valc_map : ∀ (m : Nat) (f : Nat → Int), valc ((List.range m).map f) = sumU f m
 | 0, _ => rfl
 | m + 1, f => by
   rw [List.range_succ_eq_map, List.map_cons, List.map_map, valc, sumU, valc_map m]
   rfl
theorem sumU_get : ∀ (l : List Int) (m : Nat), l.length ≤ m → sumU (fun i => l.getD i 0) m = valc l
 | [], m, _ => by simpa [valc] using sumU_zero m
 | x :: r, 0, h => by simp at h
 | x :: r, m + 1, h => by
   have ih := sumU_get r m (by simpa using h)
   simp only [sumU, valc, List.getD_cons_succ, List.getD_cons_zero, ih]
theorem valc_sum {a b : List Int} {m : Nat} (ha : a.length ≤ m) (hb : b.length ≤ m) : valc ((List.range m).map fun i => a.getD i 0 + b.getD i 0) = valc a + valc b := by
 rw [valc_map, sumU_add, sumU_get a m ha, sumU_get b m hb]
theorem getD_past {l : List Int} {i : Nat} (h : l.length ≤ i) : l.getD i 0 = 0 := by rw [List.getD_eq_getElem?_getD, List.getElem?_eq_none h]; rfl
def pc (a b : List Int) (i : Nat) : Nat → Int
 | 0 => 0
 | k + 1 => pc a b i k + a.getD k 0 * b.getD (i - k) 0
theorem pc_low (a b : List Int) (i : Nat) : ∀ k : Nat, k + b.length ≤ i + 1 → pc a b i k = 0
 | 0, _ => rfl
 | k + 1, h => by
   rw [pc, pc_low a b i k (by omega), getD_past (l := b) (by omega)]
   simp
theorem pc_high (a b : List Int) (i k : Nat) (hk : a.length ≤ k) : ∀ d : Nat, pc a b i (k + d) = pc a b i k
 | 0 => rfl
 | d + 1 => by
   rw [← Nat.add_assoc, pc, pc_high a b i k hk d, getD_past (l := a) (by omega)]
   simp
def cf (a b : List Int) (i : Nat) : Int := pc a b i (i + 1)
theorem pc_cons (x : Int) (r b : List Int) (i : Nat) : ∀ k : Nat, pc (x :: r) b (i + 1) (k + 1) = x * b.getD (i + 1) 0 + pc r b i k
 | 0 => by simp [pc]
 | k + 1 => by
   rw [pc, pc_cons x r b i k, pc, List.getD_cons_succ, show i + 1 - (k + 1) = i - k by omega, Int.add_assoc]
theorem pc_nil (b : List Int) (i : Nat) : ∀ k : Nat, pc [] b i k = 0
 | 0 => rfl
 | k + 1 => by rw [pc, pc_nil b i k]; simp
theorem sumU_cf : ∀ (a b : List Int) (m : Nat), a.length + b.length ≤ m + 1 → sumU (cf a b) m = valc a * valc b
 | [], b, m, _ => by
   rw [sumU_congr m (cf [] b) (fun _ => 0) (fun i _ => pc_nil b i _), sumU_zero]
   simp [valc]
 | x :: r, b, 0, h => by
   have hb : b = [] := List.eq_nil_of_length_eq_zero (by simp at h; omega)
   subst hb
   simp [sumU, valc]
 | x :: r, b, m + 1, h => by
   have ih := sumU_cf r b m (by simp at h; omega)
   have hb := sumU_get b (m + 1) (by simp at h; omega)
   simp only [sumU] at hb ⊢
   rw [sumU_congr m (fun i => cf (x :: r) b (i + 1)) (fun i => x * b.getD (i + 1) 0 + cf r b i) (fun i _ => pc_cons x r b i (i + 1)), sumU_add m (fun i => x * b.getD (i + 1) 0) (cf r b), sumU_mul x m (fun i => b.getD (i + 1) 0), ih, valc, ← hb]
   have e : cf (x :: r) b 0 = x * b.getD 0 0 := by simp [cf, pc]
   rw [e]
   grind
theorem valc_prod {a b : List Int} {m : Nat} (h : a.length + b.length ≤ m + 1) : valc ((List.range m).map (cf a b)) = valc a * valc b := by
 rw [valc_map, sumU_cf a b m h]
theorem getD_bd {l : List Int} {B : Int} (h0 : 0 ≤ B) (h : ∀ y ∈ l, -B ≤ y ∧ y ≤ B) (i : Nat) : -B ≤ l.getD i 0 ∧ l.getD i 0 ≤ B := by
 rw [List.getD_eq_getElem?_getD]
 cases e : l[i]? with
 | none => exact ⟨by simp; omega, by simp; omega⟩
 | some y => exact h y (List.mem_of_getElem? e)
theorem mul_bd {x y : Int} (hx : -65535 ≤ x ∧ x ≤ 65535) (hy : -65535 ≤ y ∧ y ≤ 65535) : -4294967296 ≤ x * y ∧ x * y ≤ 4294967296 := by
 have h : (x * y).natAbs ≤ 65535 * 65535 := by
  rw [Int.natAbs_mul]
  exact Nat.mul_le_mul (by omega) (by omega)
 omega
theorem pc_bd {a b : List Int} (ha : ∀ y ∈ a, -65535 ≤ y ∧ y ≤ 65535) (hb : ∀ y ∈ b, -65535 ≤ y ∧ y ≤ 65535) (i : Nat) : ∀ k : Nat, -(4294967296 * (k : Int)) ≤ pc a b i k ∧ pc a b i k ≤ 4294967296 * (k : Int)
 | 0 => by simp [pc]
 | k + 1 => by
   have ih := pc_bd ha hb i k
   have hm := mul_bd (getD_bd (by omega) ha k) (getD_bd (by omega) hb (i - k))
   rw [pc]
   omega
end Go.Proofs.YthlfhfkfjefidaaGreat
/- Lists of int over XMem, and rows that a call owns (XCells, XOwn6 and XExt6 for chapter 1). -/
namespace Go.Proofs.YthlfhfkfjefidaaGreat
open Go.RowKit
def i64s (l : List Int) : List Value := l.map (Value.int .i64)
theorem i64s_length (l : List Int) : (i64s l).length = l.length := by simp [i64s]
theorem i64s_get? (l : List Int) (k : Nat) : (i64s l)[k]? = (l[k]?).map (Value.int .i64) := by simp [i64s]
structure Nums (w : World) (B : Nat) (A : Option Addr) (n c : Nat) (l : List Int) : Prop where
 sl : Sl w B 1 A n c (i64s l)
section
variable {w w' : World} {B B' n c : Nat} {A : Option Addr} {l : List Int}
theorem Nums.len (h : Nums w B A n c l) : l.length = n := by have := h.sl.len; rw [i64s_length] at this; omega
theorem Nums.cap (h : Nums w B A n c l) : n ≤ c := h.sl.cap
theorem Nums.max (h : Nums w B A n c l) : c ≤ 9223372036854775807 := h.sl.max
theorem Nums.below (h : Nums w B A n c l) {D : Nat} (hb : Below D w w') (hD : B ≤ D) (hB : B ≤ B') : Nums w' B' A n c l := ⟨h.sl.below hb hD hB⟩
theorem Nums.mono (h : Nums w B A n c l) (hB : B ≤ B') : Nums w B' A n c l := ⟨h.sl.mono hB⟩
theorem Nums.at_ (h : Nums w B A n c l) {k : Nat} (hk : k < n) : ∃ b o x, A = some ⟨b, o, none⟩ ∧ b < B ∧ l[k]? = some x ∧ w.cell? ⟨b, o + k, none⟩ = some (.int .i64 x) := by
 obtain ⟨b, o, e, hb, hc⟩ := h.sl.cells (by omega)
 have hl : k < l.length := by have := h.len; omega
 exact ⟨b, o, l[k], e, hb, List.getElem?_eq_getElem hl, hc k _ (by rw [i64s_get?, List.getElem?_eq_getElem hl]; rfl)⟩
theorem Nums.of_bk {g : Nat} {t : TypeId} (h : Bk w g t (i64s l).toArray) (hB : g < B) (hn : l.length = n) (hc : n ≤ c) (hm : c ≤ 9223372036854775807) : Nums w B (some ⟨g, 0, none⟩) n c l := by
 refine ⟨?_⟩
 have := h.sl (B := B) (size := 1) (n := n) (c := c) hB hc hm (by simp [i64s, hn])
 rwa [Nat.mul_one, List.take_of_length_le (by simp [i64s, hn])] at this
end
theorem Nums.new (w : World) (t : TypeId) (l : List Int) (n : Nat) (hn : l.length = n) (hm : n ≤ 9223372036854775807) (g : Nat) (hg : w.heap.size = g) : Nums (w.alloc (.cells (i64s l).toArray t)) (g + 1) (some ⟨g, 0, none⟩) n n l := by
 subst hg
 exact Nums.of_bk (Bk.alloc_ w t _) (by omega) hn (Nat.le_refl _) hm
section
variable {w w1 w2 : World} {base e size n : Nat} {v : Value} {xs : List Value}
theorem own_step (h : w1.ownsRow base e size v n xs) (hb : Below w1.heap.size w1 w2) : w2.ownsRow base e size v n xs :=
 h.kept (row := none) ⟨hb.os, hb.tape, hb.output, hb.size, fun i hi _ => hb.block i hi⟩ (by
  rcases h.2 with ⟨rfl, -⟩ | ⟨g, cap, cur, rfl, -⟩
  · exact .inl rfl
  · exact .inr (by simp [Value.ownBlock]))
theorem Sl.of_own (h : w.ownsRow base e size v n xs) : ∃ A c, v = .slice A n c ∧ Sl w w.heap.size size A n c xs ∧ (A = none → n = 0 ∧ c = 0) := by
 rcases h.2 with ⟨rfl, rfl⟩ | ⟨g, cap, cur, rfl, hbg, hh, hnc, hm, hs, hx⟩
 · have : xs = [] := List.eq_nil_of_length_eq_zero (by have := h.1; omega)
   subst this
   exact ⟨none, 0, rfl, Sl.nil_ _ _ _, fun _ => ⟨rfl, rfl⟩⟩
 · refine ⟨_, cap, rfl, ?_, fun h => by cases h⟩
   have hb : Bk w g e cur := hh
   rw [← hx]
   exact hb.sl hb.lt hnc hm (by rw [hs]; exact Nat.mul_le_mul_right _ hnc)
end
theorem info_parts {P : Program} {t : TypeId} {z : Option Value} {s b : Nat} (h : (P.info? t).map (fun i => (i.zero, i.size, i.bytes)) = some (z, s, b)) : ∃ i0, P.info? t = some i0 ∧ i0.zero = z ∧ i0.size = s ∧ i0.bytes = b := by
 obtain ⟨i0, h0, h1⟩ := Option.map_eq_some_iff.1 h
 simp only [Prod.mk.injEq] at h1
 exact ⟨i0, h0, h1.1, h1.2.1, h1.2.2⟩
theorem info_int1 : (Tryz.prog.info? 3).map (fun i => (i.zero, i.size, i.bytes)) = some (some (.int .i64 0), 1, 8) := by kernel_rfl
theorem Nums.of_own {w : World} {base t n : Nat} {v : Value} {l : List Int} (h : w.ownsRow base t 1 v n (i64s l)) : ∃ A c, v = .slice A n c ∧ Nums w w.heap.size A n c l := by
 obtain ⟨A, c, rfl, hs, -⟩ := Sl.of_own h
 exact ⟨A, c, rfl, ⟨hs⟩⟩
end Go.Proofs.YthlfhfkfjefidaaGreat
/- The walk of carried of the reference. -/
namespace Go.Proofs.YthlfhfkfjefidaaGreat
open Go.RowKit
theorem carr_snoc (x : Int) : ∀ (l : List Int) (k : Int), carr k (l ++ [x]) = carr k l ++ [(x + carrK k l) % 65536] ∧ carrK k (l ++ [x]) = (x + carrK k l) / 65536
 | [], k => ⟨rfl, rfl⟩
 | y :: r, k => by
   have ih := carr_snoc x r ((y + k) / 65536)
   exact ⟨by simp only [List.cons_append, carr, carrK, ih.1], by simp only [List.cons_append, carrK, ih.2]⟩
theorem carr_step {l : List Int} {k : Nat} {x : Int} (hx : l[k]? = some x) : carr 0 (l.take (k + 1)) = carr 0 (l.take k) ++ [(x + carrK 0 (l.take k)) % 65536] ∧ carrK 0 (l.take (k + 1)) = (x + carrK 0 (l.take k)) / 65536 := by
 rw [List.take_add_one, hx]
 exact carr_snoc x (l.take k) 0
theorem tmod_bd (n : Int) : -65536 < n.tmod 65536 ∧ n.tmod 65536 < 65536 ∧ 65536 * n.tdiv 65536 + n.tmod 65536 = n := by
 have h := Int.mul_tdiv_add_tmod n 65536
 have h1 := Int.tmod_lt_of_pos n (show (0 : Int) < 65536 by omega)
 have h2 := Int.tmod_lt_of_pos (-n) (show (0 : Int) < 65536 by omega)
 rw [Int.neg_tmod] at h2
 omega
theorem tdiv_exact (n : Int) : (n - n % 65536).tdiv 65536 = n / 65536 := by
 have h : n - n % 65536 = 65536 * (n / 65536) := by omega
 rw [h, Int.mul_tdiv_cancel_left _ (by omega)]
set_option maxRecDepth 100000 in
set_option maxHeartbeats 8000000 in
theorem carried_any (A : Option Addr) (n c : Nat) (l : List Int) (w : World) (hl : Nums w w.heap.size A n c l) (hn : n ≤ 100000) (hb : ∀ y ∈ l, -1152921504606846976 ≤ y ∧ y ≤ 1152921504606846976) :
 Calls Tryz.prog 98 #[.slice A n c] w fun e w' => Below w.heap.size w w' ∧ ∃ A' c', e = .returned (.tuple #[.slice A' n c', .int .i64 (carrK 0 l)]) ∧ w'.ownsRow w.heap.size 3 1 (.slice A' n c') n (i64s (carr 0 l)) := by
 have hcap := hl.cap
 have hmax := hl.max
 have HLEN := Lib.hid hl.len
 have HB := Lib.hid hb
 have H : Hid (∀ w', Below w.heap.size w w' → Nums w' w.heap.size A n c l) := fun w' hb => hl.below hb (Nat.le_refl _) (Nat.le_refl _)
 obtain ⟨i0, hi0, hz0, hz1, hz2⟩ := info_parts info_int1
 have HI0 := Lib.hid hi0
 have HZ0 := Lib.hid hz0
 have HZ1 := Lib.hid hz1
 have HZ2 := Lib.hid hz2
 clear hi0 hz0 hz1 hz2 hl hb
 go_enter Tryz.func98, Tryz.ntmps98
 go_wp2
 go_loopw [4, 5, 6, 7, 8] (fun v kk x _ _ wr => ∃ k : Nat, k ≤ n ∧ x = .int .i64 k ∧ kk = .int .i64 (carrK 0 (l.take k)) ∧ wr.ownsRow w.heap.size 3 1 v k (i64s (carr 0 (l.take k))) ∧ Below w.heap.size w wr) (fun _ _ x _ _ _ => n - (intOf x).toNat)
 case atStart => exact ⟨0, Nat.zero_le _, rfl, rfl, World.ownsRow_nil _ _ _ _, (by repeat (first | exact Below.refl _ _ | assumption | refine Below.drew ?_ | refine Below.drewN ?_ _ | refine Below.alloc ?_ (by simp <;> omega) _ | refine Below.setCell ?_ (by simp <;> omega) _))⟩
 case round =>
  obtain ⟨k, hk, rfl, rfl, hown, hb⟩ := hrel
  have HBR := Lib.hid hb
  have HOWN := Lib.hid hown
  have ow := hb.size
  clear hown
  by_cases hlt : k < n
  · obtain ⟨b, o, x, rfl, hbb, hx, c0⟩ := (H.out _ hb).at_ hlt
    obtain ⟨hs1, hs2⟩ := carr_step hx
    have HS1 := Lib.hid hs1
    have HS2 := Lib.hid hs2
    have hxb := HB.out x (List.mem_of_getElem? hx)
    have hkb := carrK_bd (B := 1152921504606846976) (by omega) (l.take k) 0 (fun y hy => HB.out y (List.mem_of_mem_take hy)) (by omega) (by omega)
    clear hs1 hs2 hx hb
    generalize carrK 0 (l.take k) = K at hkb HS1 HS2 ⊢
    obtain ⟨N, hN⟩ : ∃ N, x + K = N := ⟨_, rfl⟩
    have HN := Lib.hid hN
    have hw1 : IntKind.i64.wrap (x + K) = N := by rw [hN]; exact IntWalk.i64_in _ (by omega)
    have hNb : -2305843009213693952 ≤ N ∧ N ≤ 2305843009213693952 := by omega
    obtain ⟨t1, t2, t3⟩ := tmod_bd N
    have t4 := tdiv_exact N
    clear hN hxb hkb
    rcases Int.lt_or_le (N.tmod 65536) 0 with hneg | hneg
    · have hR : N.tmod 65536 + 65536 = N % 65536 := by omega
      have HQ : Hid ((N - (N.tmod 65536 + 65536)).tdiv 65536 = carrK 0 (l.take (k + 1))) := Lib.hid (by rw [hR, t4, HS2.out, HN.out])
      have HE : Hid (carr 0 (l.take (k + 1)) = carr 0 (l.take k) ++ [N.tmod 65536 + 65536]) := Lib.hid (by rw [hR, HS1.out, HN.out])
      clear hR
      go_wp2_with (at_builtin; refine wpList_append_own_at _ rfl _ _ _ rfl w.heap.size 3 i0 _ 1 8 Tryz.underlying79 HI0.out HZ0.out HZ1.out HZ2.out rfl (by omega) _ _ _ rfl (HOWN.out.alloc _) ⟨wr.heap.size, 0, none⟩ 1 1 [.int .i64 (N.tmod 65536 + 65536)] rfl rfl (World.news_of_block (cs := #[.int .i64 (N.tmod 65536 + 65536)]) (t := 3) (fr := (0, 0)) (heap_alloc_new wr _)) (by intro u hu; simp at hu; subst hu; rfl) (by unfold maxLen; omega) (by omega) (by simp; omega) ?_; intro v1 w1 hown1 hg1 _ _; have HO1 := Lib.hid hown1; have HG1 := Lib.hid hg1; clear hown1 hg1)
      go_roundw
      case rel =>
       have hb0 := HBR.out
       refine ⟨k + 1, by omega, by go_num, congrArg (Value.int .i64) HQ.out, ?_, ?_⟩
       · have := HO1.out
         rw [HE.out]
         simpa [i64s] using this
       · exact (Below.alloc hb0 hb0.size _).grown HG1.out (by simp; omega) (fun q hq => by have := (HOWN.out.lt _ hq).1; omega)
      case measure => (simp [intOf]; omega)
    · have hR : N.tmod 65536 = N % 65536 := by omega
      have HQ : Hid ((N - N.tmod 65536).tdiv 65536 = carrK 0 (l.take (k + 1))) := Lib.hid (by rw [hR, t4, HS2.out, HN.out])
      have HE : Hid (carr 0 (l.take (k + 1)) = carr 0 (l.take k) ++ [N.tmod 65536]) := Lib.hid (by rw [hR, HS1.out, HN.out])
      clear hR
      go_wp2_with (at_builtin; refine wpList_append_own_at _ rfl _ _ _ rfl w.heap.size 3 i0 _ 1 8 Tryz.underlying79 HI0.out HZ0.out HZ1.out HZ2.out rfl (by omega) _ _ _ rfl (HOWN.out.alloc _) ⟨wr.heap.size, 0, none⟩ 1 1 [.int .i64 (N.tmod 65536)] rfl rfl (World.news_of_block (cs := #[.int .i64 (N.tmod 65536)]) (t := 3) (fr := (0, 0)) (heap_alloc_new wr _)) (by intro u hu; simp at hu; subst hu; rfl) (by unfold maxLen; omega) (by omega) (by simp; omega) ?_; intro v1 w1 hown1 hg1 _ _; have HO1 := Lib.hid hown1; have HG1 := Lib.hid hg1; clear hown1 hg1)
      go_roundw
      case rel =>
       have hb0 := HBR.out
       refine ⟨k + 1, by omega, by go_num, congrArg (Value.int .i64) HQ.out, ?_, ?_⟩
       · have := HO1.out
         rw [HE.out]
         simpa [i64s] using this
       · exact (Below.alloc hb0 hb0.size _).grown HG1.out (by simp; omega) (fun q hq => by have := (HOWN.out.lt _ hq).1; omega)
      case measure => (simp [intOf]; omega)
  · obtain rfl : k = n := by omega
    clear hb
    have HX : Hid (l.take k = l) := Lib.hid (List.take_of_length_le (by rw [HLEN.out]; exact Nat.le_refl _))
    obtain ⟨A', c', rfl, -⟩ := Nums.of_own HOWN.out
    go_wp2
    refine bodyPost_ret (results_tmp2 rfl _ _ _) rfl ?_
    refine ⟨HBR.out, A', c', ?_, ?_⟩
    · rw [HX.out]; rfl
    · have := HOWN.out
      rwa [HX.out] at this
end Go.Proofs.YthlfhfkfjefidaaGreat
/- The walk of spread of the reference. -/
namespace Go.Proofs.YthlfhfkfjefidaaGreat
open Go.RowKit
theorem spr_length : ∀ f n : Nat, (spr f n).length ≤ f
 | 0, _ => by simp [spr]
 | f + 1, n => by
   unfold spr
   split
   · simp
   · simp; exact spr_length f _
theorem spr_zero (f : Nat) : spr f 0 = [] := by cases f <;> simp [spr]
theorem spr_next {f n : Nat} (h : n ≠ 0) (hf : n < 65536 ^ f) : ∃ g, f = g + 1 ∧ spr f n = ((n % 65536 : Nat) : Int) :: spr g (n / 65536) ∧ n / 65536 < 65536 ^ g := by
 cases f with
 | zero => simp at hf; omega
 | succ g => exact ⟨g, rfl, by simp [spr, h], by rw [Nat.pow_succ] at hf; exact Nat.div_lt_of_lt_mul (by rw [Nat.mul_comm]; exact hf)⟩
theorem nat_tmod (m : Nat) : (m : Int).tmod 65536 = ((m % 65536 : Nat) : Int) := rfl
theorem nat_tdiv (m : Nat) : (m : Int).tdiv 65536 = ((m / 65536 : Nat) : Int) := rfl
set_option maxRecDepth 100000 in
set_option maxHeartbeats 8000000 in
theorem spread_any (m f : Nat) (w : World) (hm : m < 65536 ^ f) (hf : f ≤ 100) (h2 : m ≤ 4611686018427387904) :
 Calls Tryz.prog 100 #[.int .i64 (m : Int)] w fun e w' => Below w.heap.size w w' ∧ ∃ A' n' c', e = .returned (.slice A' n' c') ∧ n' = (spr f m).length ∧ w'.ownsRow w.heap.size 3 1 (.slice A' n' c') n' (i64s (spr f m)) := by
 have HM := Lib.hid hm
 obtain ⟨i0, hi0, hz0, hz1, hz2⟩ := info_parts info_int1
 have HI0 := Lib.hid hi0
 have HZ0 := Lib.hid hz0
 have HZ1 := Lib.hid hz1
 have HZ2 := Lib.hid hz2
 have HSL := spr_length f m
 clear hi0 hz0 hz1 hz2 hm
 go_enter Tryz.func100, Tryz.ntmps100
 go_wp2
 go_loopw [0, 3] (fun x v wr => ∃ (p g q : Nat) (done : List Int), x = .int .i64 (p : Int) ∧ p ≤ m ∧ Hid (done ++ spr g p = spr f m ∧ p < 65536 ^ g) ∧ done.length = q ∧ wr.ownsRow w.heap.size 3 1 v q (i64s done) ∧ Below w.heap.size w wr) (fun x _ _ => (intOf x).toNat)
 case atStart => exact ⟨m, f, 0, [], rfl, Nat.le_refl _, Lib.hid ⟨rfl, HM.out⟩, rfl, World.ownsRow_nil _ _ _ _, (by repeat (first | exact Below.refl _ _ | assumption | refine Below.drew ?_ | refine Below.drewN ?_ _ | refine Below.alloc ?_ (by simp <;> omega) _ | refine Below.setCell ?_ (by simp <;> omega) _))⟩
 case round =>
  obtain ⟨p, g, q, done, rfl, hp, HD, hq, hown, hb⟩ := hrel
  have HBR := Lib.hid hb
  have HOWN := Lib.hid hown
  have HQL := Lib.hid hq
  have ow := hb.size
  have hql : q ≤ 100 := by
   have h1 := congrArg List.length HD.out.1
   rw [List.length_append] at h1
   omega
  clear hown hb hq
  by_cases h0 : 0 < p
  · obtain ⟨g', rfl, hs1, hs2⟩ := spr_next (by omega) HD.out.2
    have HS1 := Lib.hid hs1
    have HS2 := Lib.hid hs2
    clear hs1 hs2
    obtain ⟨t1, t2, t3⟩ := tmod_bd (p : Int)
    have t4 := nat_tdiv p
    have t5 := nat_tmod p
    go_wp2_with (at_builtin; refine wpList_append_own_at _ rfl _ _ _ rfl w.heap.size 3 i0 _ 1 8 Tryz.underlying79 HI0.out HZ0.out HZ1.out HZ2.out rfl (by omega) _ _ _ rfl (HOWN.out.alloc _) ⟨wr.heap.size, 0, none⟩ 1 1 [.int .i64 ((p : Int).tmod 65536)] rfl rfl (World.news_of_block (cs := #[.int .i64 ((p : Int).tmod 65536)]) (t := 3) (fr := (0, 0)) (heap_alloc_new wr _)) (by intro u hu; simp at hu; subst hu; rfl) (by unfold maxLen; omega) (by omega) (by simp; omega) ?_; intro v1 w1 hown1 hg1 _ _; have HO1 := Lib.hid hown1; have HG1 := Lib.hid hg1; clear hown1 hg1)
    go_roundw
    case rel =>
     have hb0 := HBR.out
     refine ⟨p / 65536, g', q + 1, done ++ [((p % 65536 : Nat) : Int)], congrArg (Value.int .i64) t4, by omega, Lib.hid ⟨?_, HS2.out⟩, by simp [HQL.out], ?_, ?_⟩
     · rw [List.append_assoc]
       exact (congrArg (done ++ ·) HS1.out).symm.trans HD.out.1
     · have := HO1.out
       rw [t5] at this
       simpa [i64s] using this
     · exact (Below.alloc hb0 hb0.size _).grown HG1.out (by simp; omega) (fun q hq => by have := (HOWN.out.lt _ hq).1; omega)
    case measure => (simp [intOf]; omega)
  · obtain rfl : p = 0 := by omega
    have hd := HD.out.1
    rw [spr_zero, List.append_nil] at hd
    have HX := Lib.hid hd
    clear hd
    obtain ⟨A', c', rfl, -⟩ := Nums.of_own HOWN.out
    go_wp2
    go_ret
    refine ⟨HBR.out, A', q, c', rfl, ?_, ?_⟩
    · rw [← HX.out, HQL.out]
    · have := HOWN.out
      rwa [HX.out] at this
end Go.Proofs.YthlfhfkfjefidaaGreat
/- The walk of columns of the reference. -/
namespace Go.Proofs.YthlfhfkfjefidaaGreat
open Go.RowKit
theorem cols_snoc (s : Bool) (x : Nat) : ∀ l : List Nat, cols s (l ++ [x]) = cols s l ++ [sgn s * ((x % 65536 : Nat) : Int), sgn s * ((x / 65536 : Nat) : Int)]
 | [] => rfl
 | y :: r => by simp only [List.cons_append, cols, cols_snoc s x r]
theorem cols_step {s : Bool} {l : List Nat} {k x : Nat} (hx : l[k]? = some x) : cols s (l.take (k + 1)) = cols s (l.take k) ++ [sgn s * ((x % 65536 : Nat) : Int), sgn s * ((x / 65536 : Nat) : Int)] := by
 rw [List.take_add_one, hx]
 exact cols_snoc s x (l.take k)
theorem nat_tmod2 (m : Nat) : (m : Int).tmod 65536 = ((m % 65536 : Nat) : Int) := rfl
theorem nat_tdiv2 (m : Nat) : (m : Int).tdiv 65536 = ((m / 65536 : Nat) : Int) := rfl
set_option maxRecDepth 100000 in
set_option maxHeartbeats 8000000 in
theorem columns_false (A : Option Addr) (n c : Nat) (l : List Nat) (w : World) (hl : Lim w w.heap.size A n c l) (hn : n ≤ 1000) :
 Calls Tryz.prog 55 #[.agg #[.bool false, .slice A n c]] w fun e w' => Below w.heap.size w w' ∧ ∃ A' c', e = .returned (.slice A' (2 * n) c') ∧ Nums w' w'.heap.size A' (2 * n) c' (cols false l) := by
 have hcap := hl.cap
 have hmax := hl.max
 have HLEN := Lib.hid hl.len
 have H : Hid (∀ w', Below w.heap.size w w' → Lim w' w.heap.size A n c l) := fun w' hb => hl.below hb (Nat.le_refl _) (Nat.le_refl _)
 obtain ⟨i0, hi0, hz0, hz1, hz2⟩ := info_parts info_int1
 have HI0 := Lib.hid hi0
 have HZ0 := Lib.hid hz0
 have HZ1 := Lib.hid hz1
 have HZ2 := Lib.hid hz2
 clear hi0 hz0 hz1 hz2 hl
 go_enter Tryz.func55, Tryz.ntmps55
 go_wp2
 go_loopw [4, 5, 6] (fun v x _ wr => ∃ k : Nat, k ≤ n ∧ x = .int .i64 k ∧ wr.ownsRow (w.heap.size + 1) 3 1 v (2 * k) (i64s (cols false (l.take k))) ∧ Bk wr w.heap.size 24 #[.bool false, .slice A n c] ∧ Below w.heap.size w wr) (fun _ x _ _ => n - (intOf x).toNat)
 case atStart => exact ⟨0, Nat.zero_le _, rfl, World.ownsRow_nil _ _ _ _, Bk.alloc_ _ _ _, (by repeat (first | exact Below.refl _ _ | assumption | refine Below.drew ?_ | refine Below.drewN ?_ _ | refine Below.alloc ?_ (by simp <;> omega) _ | refine Below.setCell ?_ (by simp <;> omega) _))⟩
 case round =>
  obtain ⟨k, hk, rfl, hown, hbk, hb⟩ := hrel
  have HBR := Lib.hid hb
  have HOWN := Lib.hid hown
  have HBK := Lib.hid hbk
  have ow := hb.size
  have og := hbk.lt
  have a0 : wr.cell? ⟨w.heap.size, 1, none⟩ = some (.slice A n c) := by simpa using hbk.cell 1
  clear hown hbk
  by_cases hlt : k < n
  · obtain ⟨b, o, x, rfl, hbb, hx, hxb, c0⟩ := (H.out _ hb).at_ hlt
    have HS1 := Lib.hid (cols_step (s := false) hx)
    clear hx hb
    have t6 : 0 ≤ (x : Int).tdiv 65536 ∧ (x : Int).tdiv 65536 < 65536 := by rw [nat_tdiv2]; omega
    have t7 : 0 ≤ (x : Int).tmod 65536 := by rw [nat_tmod2]; omega
    go_wp2_with (at_builtin; refine wpList_append_own_at _ rfl _ _ _ rfl (w.heap.size + 1) 3 i0 _ 1 8 Tryz.underlying79 HI0.out HZ0.out HZ1.out HZ2.out rfl (by omega) _ _ _ rfl (HOWN.out.alloc _) ⟨wr.heap.size, 0, none⟩ 2 2 [.int .i64 ((x : Int) % 65536), .int .i64 ((x : Int) / 65536)] rfl rfl (World.news_of_block (cs := #[.int .i64 ((x : Int) % 65536), .int .i64 ((x : Int) / 65536)]) (t := 3) (fr := (0, 0)) (heap_alloc_new wr _)) (by intro u hu; simp at hu; rcases hu with rfl | rfl <;> rfl) (by unfold maxLen; omega) (by omega) (by simp; omega) ?_; intro v1 w1 hown1 hg1 _ _; have hbk1 : Bk w1 w.heap.size 24 #[.bool false, .slice (some ⟨b, o, none⟩) n c] := (hg1.block _ (by simp; omega) (fun e => by have := (HOWN.out.lt _ e.symm).1; omega)).trans (HBK.out.alloc _); have HO1 := Lib.hid hown1; have HG1 := Lib.hid hg1; have HBK1 := Lib.hid hbk1; clear hown1 hg1 hbk1)
    go_roundw
    case rel =>
     have hb0 := HBR.out
     refine ⟨k + 1, by omega, by go_num, ?_, HBK1.out, ?_⟩
     · have := HO1.out
       rw [HS1.out]
       rw [show 2 * (k + 1) = 2 * k + 2 by omega]
       simpa [i64s, sgn] using this
     · exact (Below.alloc hb0 hb0.size _).grown HG1.out (by simp; omega) (fun q hq => by have := (HOWN.out.lt _ hq).1; omega)
    case measure => (simp [intOf]; omega)
  · obtain rfl : k = n := by omega
    clear hb
    have HX : Hid (l.take k = l) := Lib.hid (List.take_of_length_le (by rw [HLEN.out]; exact Nat.le_refl _))
    obtain ⟨A', c', rfl, hs'⟩ := Nums.of_own HOWN.out
    have HS := Lib.hid hs'
    clear hs'
    go_wp2
    go_ret
    refine ⟨HBR.out, A', c', rfl, ?_⟩
    have := HS.out
    rwa [HX.out] at this
set_option maxRecDepth 100000 in
set_option maxHeartbeats 8000000 in
theorem columns_true (A : Option Addr) (n c : Nat) (l : List Nat) (w : World) (hl : Lim w w.heap.size A n c l) (hn : n ≤ 1000) :
 Calls Tryz.prog 55 #[.agg #[.bool true, .slice A n c]] w fun e w' => Below w.heap.size w w' ∧ ∃ A' c', e = .returned (.slice A' (2 * n) c') ∧ Nums w' w'.heap.size A' (2 * n) c' (cols true l) := by
 have hcap := hl.cap
 have hmax := hl.max
 have HLEN := Lib.hid hl.len
 have H : Hid (∀ w', Below w.heap.size w w' → Lim w' w.heap.size A n c l) := fun w' hb => hl.below hb (Nat.le_refl _) (Nat.le_refl _)
 obtain ⟨i0, hi0, hz0, hz1, hz2⟩ := info_parts info_int1
 have HI0 := Lib.hid hi0
 have HZ0 := Lib.hid hz0
 have HZ1 := Lib.hid hz1
 have HZ2 := Lib.hid hz2
 clear hi0 hz0 hz1 hz2 hl
 go_enter Tryz.func55, Tryz.ntmps55
 go_wp2
 go_loopw [4, 5, 6] (fun v x _ wr => ∃ k : Nat, k ≤ n ∧ x = .int .i64 k ∧ wr.ownsRow (w.heap.size + 1) 3 1 v (2 * k) (i64s (cols true (l.take k))) ∧ Bk wr w.heap.size 24 #[.bool true, .slice A n c] ∧ Below w.heap.size w wr) (fun _ x _ _ => n - (intOf x).toNat)
 case atStart => exact ⟨0, Nat.zero_le _, rfl, World.ownsRow_nil _ _ _ _, Bk.alloc_ _ _ _, (by repeat (first | exact Below.refl _ _ | assumption | refine Below.drew ?_ | refine Below.drewN ?_ _ | refine Below.alloc ?_ (by simp <;> omega) _ | refine Below.setCell ?_ (by simp <;> omega) _))⟩
 case round =>
  obtain ⟨k, hk, rfl, hown, hbk, hb⟩ := hrel
  have HBR := Lib.hid hb
  have HOWN := Lib.hid hown
  have HBK := Lib.hid hbk
  have ow := hb.size
  have og := hbk.lt
  have a0 : wr.cell? ⟨w.heap.size, 1, none⟩ = some (.slice A n c) := by simpa using hbk.cell 1
  clear hown hbk
  by_cases hlt : k < n
  · obtain ⟨b, o, x, rfl, hbb, hx, hxb, c0⟩ := (H.out _ hb).at_ hlt
    have HS1 := Lib.hid (cols_step (s := true) hx)
    clear hx hb
    have t6 : 0 ≤ (x : Int).tdiv 65536 ∧ (x : Int).tdiv 65536 < 65536 := by rw [nat_tdiv2]; omega
    have t7 : 0 ≤ (x : Int).tmod 65536 := by rw [nat_tmod2]; omega
    go_wp2_with (at_builtin; refine wpList_append_own_at _ rfl _ _ _ rfl (w.heap.size + 1) 3 i0 _ 1 8 Tryz.underlying79 HI0.out HZ0.out HZ1.out HZ2.out rfl (by omega) _ _ _ rfl (HOWN.out.alloc _) ⟨wr.heap.size, 0, none⟩ 2 2 [.int .i64 (-((x : Int) % 65536)), .int .i64 (-((x : Int) / 65536))] rfl rfl (World.news_of_block (cs := #[.int .i64 (-((x : Int) % 65536)), .int .i64 (-((x : Int) / 65536))]) (t := 3) (fr := (0, 0)) (heap_alloc_new wr _)) (by intro u hu; simp at hu; rcases hu with rfl | rfl <;> rfl) (by unfold maxLen; omega) (by omega) (by simp; omega) ?_; intro v1 w1 hown1 hg1 _ _; have hbk1 : Bk w1 w.heap.size 24 #[.bool true, .slice (some ⟨b, o, none⟩) n c] := (hg1.block _ (by simp; omega) (fun e => by have := (HOWN.out.lt _ e.symm).1; omega)).trans (HBK.out.alloc _); have HO1 := Lib.hid hown1; have HG1 := Lib.hid hg1; have HBK1 := Lib.hid hbk1; clear hown1 hg1 hbk1)
    go_roundw
    case rel =>
     have hb0 := HBR.out
     refine ⟨k + 1, by omega, by go_num, ?_, HBK1.out, ?_⟩
     · have := HO1.out
       rw [HS1.out]
       rw [show 2 * (k + 1) = 2 * k + 2 by omega]
       simpa [i64s, sgn] using this
     · exact (Below.alloc hb0 hb0.size _).grown HG1.out (by simp; omega) (fun q hq => by have := (HOWN.out.lt _ hq).1; omega)
    case measure => (simp [intOf]; omega)
  · obtain rfl : k = n := by omega
    clear hb
    have HX : Hid (l.take k = l) := Lib.hid (List.take_of_length_le (by rw [HLEN.out]; exact Nat.le_refl _))
    obtain ⟨A', c', rfl, hs'⟩ := Nums.of_own HOWN.out
    have HS := Lib.hid hs'
    clear hs'
    go_wp2
    go_ret
    refine ⟨HBR.out, A', c', rfl, ?_⟩
    have := HS.out
    rwa [HX.out] at this
end Go.Proofs.YthlfhfkfjefidaaGreat
