/- Several texts in one. -/
import Derived.Test.YtfnibkodccfocaaGreatFrac1
import Derived.Test.YtfnibkodccfocaaGreatShelf
import Derived.Test.YtfnibkodccfocaaGreatMultiply
import Derived.Test.YtfnibkodccfocaaGreatAdd
import Derived.Test.YtfnibkodccfocaaGreatLineF
import Derived.Test.YtfnibkodccfocaaGreatRefB
import Derived.Test.YtfnibkodccfocaaGreatRefDivB
import Derived.Test.YtfnibkodccfocaaGreatRefSmall
import Derived.Test.YtfnibkodccfocaaGreatRefF
/- Texts of fractions: digits, what is written and what is read; without a walk. -/
namespace Go.Proofs.YtfnibkodccfocaaGreat
open Go.RowKit

/-- The digits of a number, the last one first. -/
def dl (n : Nat) : List Nat := if h : n = 0 then [] else (n % 10) :: dl (n / 10)
termination_by n
decreasing_by omega
theorem dl_zero : dl 0 = [] := by rw [dl]; rfl
theorem dl_pos {n : Nat} (h : n ≠ 0) : dl n = (n % 10) :: dl (n / 10) := by rw [dl, dif_neg h]
/-- k digits of a number, the last one first. -/
def pd : Nat → Nat → List Nat
  | 0, _ => []
  | k + 1, n => (n % 10) :: pd k (n / 10)
theorem pd_len : ∀ (k n : Nat), (pd k n).length = k
  | 0, _ => rfl
  | k + 1, n => by simp [pd, pd_len k]
theorem pd_add : ∀ (j k n : Nat), pd (j + k) n = pd j n ++ pd k (n / 10 ^ j)
  | 0, k, n => by simp [pd]
  | j + 1, k, n => by
    rw [show j + 1 + k = (j + k) + 1 by omega, pd, pd, pd_add j k, Nat.div_div_eq_div_mul, List.cons_append, Nat.pow_succ, Nat.mul_comm 10]
theorem pd_mod : ∀ (j n : Nat), pd j (n % 10 ^ j) = pd j n
  | 0, _ => rfl
  | j + 1, n => by
    have h1 : n % 10 ^ (j + 1) % 10 = n % 10 := by rw [Nat.pow_succ]; exact Nat.mod_mul_left_mod n (10 ^ j) 10
    have h2 : n % 10 ^ (j + 1) / 10 = n / 10 % 10 ^ j := by
      rw [Nat.pow_succ, Nat.mul_comm, Nat.mod_mul_right_div_self]
    rw [pd, pd, h1, h2, pd_mod j]
/-- The digits without the zeros behind them. -/
def cutz : List Nat → List Nat
  | [] => []
  | x :: l => if x = 0 ∧ cutz l = [] then [] else x :: cutz l
theorem cutz_pd : ∀ (k n : Nat), n < 10 ^ k → cutz (pd k n) = dl n
  | 0, n, h => by
    have : n = 0 := by simpa using h
    subst this
    rw [dl_zero]; rfl
  | k + 1, n, h => by
    have hk : n / 10 < 10 ^ k := by rw [Nat.pow_succ] at h; omega
    rw [pd, cutz, cutz_pd k _ hk]
    by_cases hn : n = 0
    · subst hn
      rw [if_pos ⟨rfl, by rw [dl_zero]⟩, dl_zero]
    · rw [dl_pos hn]
      refine if_neg fun ⟨h1, h2⟩ => ?_
      by_cases h0 : n / 10 = 0
      · omega
      · rw [dl_pos h0] at h2; cases h2
theorem cutz_snoc (l : List Nat) : cutz (l ++ [0]) = cutz l := by
  induction l with
  | nil => rfl
  | cons x l ih => rw [List.cons_append, cutz, cutz, ih]
theorem cutz_last {l : List Nat} {x : Nat} (hx : x ≠ 0) : cutz (l ++ [x]) = l ++ [x] := by
  induction l with
  | nil => simp [cutz, hx]
  | cons y l ih => rw [List.cons_append, cutz, ih, if_neg (by simp)]
theorem dl_lt {n : Nat} : ∀ x ∈ dl n, x < 10 := by
  induction n using Nat.strongRecOn with
  | ind n ih =>
    intro x hx
    by_cases h : n = 0
    · subst h; rw [dl_zero] at hx; cases hx
    · rw [dl_pos h] at hx
      rcases List.mem_cons.1 hx with rfl | hx
      · omega
      · exact ih (n / 10) (by omega) x hx
theorem dl_val {n : Nat} : (dl n).foldr (fun x v => v * 10 + x) 0 = n := by
  induction n using Nat.strongRecOn with
  | ind n ih =>
    by_cases h : n = 0
    · subst h; rw [dl_zero]; rfl
    · rw [dl_pos h, List.foldr_cons, ih (n / 10) (by omega)]
      omega
/-- The digits of a number, as they are written. -/
def dec (n : Nat) : List Nat := if n = 0 then [48] else (dl n).reverse.map (· + 48)
/-- What the two ways of reading make of a text. -/
def natP (l : List Nat) : Nat := l.foldl (fun v c => v * 10 + (c + 208) % 256) 0
def natR (l : List Nat) : Nat := l.foldl (fun v c => if 48 ≤ c ∧ c ≤ 57 then v * 10 + (c - 48) else v) 0
theorem dec_mem {n x : Nat} (h : x ∈ dec n) : 48 ≤ x ∧ x ≤ 57 := by
  unfold dec at h
  split at h
  · simp at h; omega
  · obtain ⟨y, hy, rfl⟩ := List.mem_map.1 h
    have := dl_lt y (by simpa using hy)
    omega
theorem fold_digits (f : Nat → Nat → Nat) (hf : ∀ v y, y < 10 → f v (y + 48) = v * 10 + y) : ∀ (l : List Nat) (v : Nat), (∀ y ∈ l, y < 10) → (l.map (· + 48)).foldl f v = l.foldl (fun v y => v * 10 + y) v
  | [], _, _ => rfl
  | y :: l, v, h => by
    rw [List.map_cons, List.foldl_cons, List.foldl_cons, hf v y (h y (by simp))]
    exact fold_digits f hf l _ fun x hx => h x (by simp [hx])
theorem fold_dec {f : Nat → Nat → Nat} (hf : ∀ v y, y < 10 → f v (y + 48) = v * 10 + y) (n : Nat) : (dec n).foldl f 0 = n := by
  unfold dec
  split
  · rename_i h
    subst h
    simpa using hf 0 0 (by omega)
  · rw [fold_digits f hf _ _ (fun y hy => dl_lt y (by simpa using hy)), List.foldl_reverse]
    exact dl_val
theorem natP_dec (n : Nat) : natP (dec n) = n := fold_dec (fun v y hy => by omega) n
theorem natR_dec (n : Nat) : natR (dec n) = n := fold_dec (fun v y hy => by rw [if_pos (by omega)]; omega) n
/-- The text of a fraction. -/
def fmtR (r : Rat) : List Nat := (if r.num < 0 then [45] else []) ++ (dec r.num.natAbs ++ if r.den = 1 then [] else 47 :: dec r.den)
/-- Ahead of the first stroke, and behind it. -/
def top (l : List Nat) : List Nat := l.takeWhile (fun c => decide (c ≠ 47))
def bot (l : List Nat) : List Nat := (l.dropWhile (fun c => decide (c ≠ 47))).drop 1
def ngB (l : List Nat) : Bool := decide (l.head? = some 45)
def offN (l : List Nat) : List Nat := if ngB l = true then l.tail else l
/-- The program's fraction of a text. -/
def parP (l : List Nat) : Rat := frac (sg (ngB l) (natP (top (offN l)))) (natP (bot (offN l)))
def rdI (l : List Nat) : Int := if l.head? = some 45 then -(natR l : Int) else (natR l : Int)
/-- The reference's. -/
def parR (l : List Nat) : Rat := frac (rdI (top l)) (if 47 ∈ l then rdI (bot l) else 1)
theorem top_of {a b : List Nat} (h : ∀ x ∈ a, x ≠ 47) : top (a ++ 47 :: b) = a ∧ bot (a ++ 47 :: b) = b := by
  unfold top bot
  induction a with
  | nil => simp
  | cons x a ih =>
    have hx := h x (by simp)
    obtain ⟨h1, h2⟩ := ih fun y hy => h y (by simp [hy])
    simp [hx] at h1 h2 ⊢
    exact ⟨h1, h2⟩
theorem top_all {a : List Nat} (h : ∀ x ∈ a, x ≠ 47) : top a = a ∧ bot a = [] := by
  unfold top bot
  induction a with
  | nil => simp
  | cons x a ih =>
    have hx := h x (by simp)
    obtain ⟨h1, h2⟩ := ih fun y hy => h y (by simp [hy])
    simp [hx] at h1 h2 ⊢
    exact ⟨h1, h2⟩
theorem dec_no47 {n : Nat} : ∀ x ∈ dec n, x ≠ 47 := fun x hx => by have := dec_mem hx; omega
theorem dec_ne (n : Nat) : dec n ≠ [] := by
  unfold dec
  split
  · simp
  · rename_i h
    rw [dl_pos h]
    simp
theorem dec_head {n : Nat} {r : List Nat} : (dec n ++ r).head? ≠ some 45 := by
  obtain ⟨x, l, e⟩ := List.exists_cons_of_ne_nil (dec_ne n)
  rw [e]
  have := dec_mem (n := n) (x := x) (by rw [e]; simp)
  simp
  omega
theorem frac_self (r : Rat) : frac r.num r.den = r := by
  unfold frac
  rw [if_neg (by have := r.den_pos; omega), Rat.num_divInt_den]
theorem frac_whole {r : Rat} (h : r.den = 1) : frac r.num 0 = r ∧ frac r.num 1 = r := by
  have e : Rat.divInt r.num 1 = r := by
    have := Rat.num_divInt_den r
    rw [h] at this
    exact this
  unfold frac
  rw [if_pos rfl, if_neg (by omega)]
  exact ⟨e, e⟩
theorem sg_num {r : Rat} : sg (decide (r.num < 0)) r.num.natAbs = r.num := by
  by_cases h : r.num < 0
  · rw [decide_eq_true h]; simp [sg]; omega
  · rw [decide_eq_false h]; simp [sg]; omega
theorem rest_parts (r : Rat) : top (dec r.num.natAbs ++ if r.den = 1 then [] else 47 :: dec r.den) = dec r.num.natAbs ∧ bot (dec r.num.natAbs ++ if r.den = 1 then [] else 47 :: dec r.den) = if r.den = 1 then [] else dec r.den := by
  split
  · rw [List.append_nil]
    exact top_all dec_no47
  · exact top_of dec_no47
theorem fmt_neg (r : Rat) : ngB (fmtR r) = decide (r.num < 0) ∧ offN (fmtR r) = dec r.num.natAbs ++ if r.den = 1 then [] else 47 :: dec r.den := by
  by_cases h : r.num < 0
  · have e : ngB (fmtR r) = true := by unfold ngB fmtR; rw [if_pos h]; simp
    refine ⟨by rw [e, decide_eq_true h], ?_⟩
    unfold offN
    rw [if_pos e]
    unfold fmtR
    rw [if_pos h]
    rfl
  · have e : ngB (fmtR r) = false := by
      unfold ngB fmtR
      rw [if_neg h, List.nil_append]
      exact decide_eq_false dec_head
    refine ⟨by rw [e, decide_eq_false h], ?_⟩
    unfold offN
    rw [if_neg (by rw [e]; simp)]
    unfold fmtR
    rw [if_neg h, List.nil_append]
theorem parP_fmt (r : Rat) : parP (fmtR r) = r := by
  unfold parP
  obtain ⟨h1, h2⟩ := fmt_neg r
  obtain ⟨h3, h4⟩ := rest_parts r
  rw [h1, h2, h3, h4, natP_dec, sg_num]
  split
  · rename_i h
    exact (frac_whole h).1
  · rw [natP_dec]
    exact frac_self r
theorem rdI_dec (n : Nat) : rdI (dec n) = (n : Int) := by
  unfold rdI
  rw [if_neg (by have := dec_head (n := n) (r := []); simpa using this), natR_dec]
theorem rdI_neg (n : Nat) : rdI (45 :: dec n) = -(n : Int) := by
  unfold rdI
  rw [if_pos (show (45 :: dec n).head? = some 45 from rfl)]
  have : natR (45 :: dec n) = natR (dec n) := by unfold natR; rw [List.foldl_cons]; rfl
  rw [this, natR_dec]
theorem parR_fmt (r : Rat) : parR (fmtR r) = r := by
  have key : ∀ (a : List Nat) (z : Int), (∀ x ∈ a, x ≠ 47) → rdI a = z → z = r.num → parR (a ++ if r.den = 1 then [] else 47 :: dec r.den) = r := by
    intro a z ha hz hn
    unfold parR
    by_cases h : r.den = 1
    · rw [if_pos h, List.append_nil, (top_all ha).1, if_neg (fun hm => ha _ hm rfl), hz, hn]
      exact (frac_whole h).2
    · rw [if_neg h, (top_of ha).1, (top_of ha).2, if_pos (by simp), hz, hn, rdI_dec]
      exact frac_self r
  unfold fmtR
  rw [← List.append_assoc]
  by_cases h : r.num < 0
  · rw [if_pos h]
    refine key _ _ ?_ (rdI_neg _) (by omega)
    intro x hx
    rcases List.mem_cons.1 hx with rfl | hx
    · decide
    · exact dec_no47 x hx
  · rw [if_neg h, List.nil_append]
    exact key _ _ dec_no47 (rdI_dec _) (by omega)
/-- Both ways of reading take the same texts for those of fractions, and tell the same one. -/
theorem par_same {l : List Nat} : (fmtR (parP l) = l ↔ fmtR (parR l) = l) ∧ (fmtR (parP l) = l → parP l = parR l) := by
  have h1 : fmtR (parP l) = l → parR l = parP l := fun h => by
    have := parR_fmt (parP l)
    rwa [h] at this
  have h2 : fmtR (parR l) = l → parP l = parR l := fun h => by
    have := parP_fmt (parR l)
    rwa [h] at this
  exact ⟨⟨fun h => by rw [h1 h]; exact h, fun h => by rw [h2 h]; exact h⟩, fun h => (h1 h).symm⟩
theorem dl_len : ∀ (k n : Nat), n < 10 ^ k → (dl n).length ≤ k
  | 0, n, h => by
    have : n = 0 := by simpa using h
    subst this
    rw [dl_zero]; simp
  | k + 1, n, h => by
    by_cases hn : n = 0
    · subst hn; rw [dl_zero]; simp
    · rw [dl_pos hn, List.length_cons]
      have := dl_len k (n / 10) (by rw [Nat.pow_succ] at h; omega)
      omega
theorem dec_len {k n : Nat} (hk : 0 < k) (h : n < 10 ^ k) : (dec n).length ≤ k := by
  unfold dec
  split
  · simp; omega
  · rw [List.length_map, List.length_reverse]
    exact dl_len k n h
theorem fmt_len {k : Nat} {r : Rat} (hk : 0 < k) (h1 : r.num.natAbs < 10 ^ k) (h2 : r.den < 10 ^ k) : (fmtR r).length ≤ 2 * k + 2 := by
  have a := dec_len hk h1
  have b := dec_len hk h2
  unfold fmtR
  rw [List.length_append, List.length_append]
  split <;> split <;> simp <;> omega

theorem dec_step (v : Nat) : dec v = (if v / 10 = 0 then [] else dec (v / 10)) ++ [v % 10 + 48] := by
  by_cases h : v = 0
  · subst h; rfl
  · have e : dec v = (dl v).reverse.map (· + 48) := by unfold dec; rw [if_neg h]
    rw [e, dl_pos h, List.reverse_cons, List.map_append]
    congr 1
    split
    · rename_i h0
      rw [h0, dl_zero]
      rfl
    · rename_i h0
      unfold dec
      rw [if_neg h0]
/-- A text of codes. -/
def bs (l : List Nat) : ByteArray := ⟨(l.map UInt8.ofNat).toArray⟩
def Codes (l : List Nat) : Prop := ∀ c ∈ l, c < 256
theorem bs_size (l : List Nat) : (bs l).size = l.length := by
  show (l.map UInt8.ofNat).toArray.size = _
  simp
theorem bs_append (a b : List Nat) : bs a ++ bs b = bs (a ++ b) := by
  apply ByteArray.ext
  rw [ByteArray.data_append]
  simp [bs]
theorem bs_inj {a b : List Nat} (ha : Codes a) (hb : Codes b) (h : bs a = bs b) : a = b := by
  have h1 : (a.map UInt8.ofNat).toArray = (b.map UInt8.ofNat).toArray := congrArg ByteArray.data h
  have h2 : a.map UInt8.ofNat = b.map UInt8.ofNat := by simpa using h1
  have key : ∀ {l : List Nat}, Codes l → (l.map UInt8.ofNat).map UInt8.toNat = l := by
    intro l hl
    rw [List.map_map]
    conv => rhs; rw [← List.map_id l]
    refine List.map_congr_left fun c hc => ?_
    have := hl c hc
    simp [UInt8.toNat_ofNat']
    omega
  rw [← key ha, ← key hb, h2]
theorem bs_of (s : ByteArray) : ∃ l, Codes l ∧ s = bs l := by
  refine ⟨s.data.toList.map UInt8.toNat, ?_, ?_⟩
  · intro c hc
    obtain ⟨u, -, rfl⟩ := List.mem_map.1 hc
    exact u.toNat_lt
  · apply ByteArray.ext
    show s.data = _
    unfold bs
    simp [List.map_map, Function.comp_def]
theorem dec_codes (n : Nat) : Codes (dec n) := fun c hc => by have := dec_mem hc; omega
theorem fmt_codes (r : Rat) : Codes (fmtR r) := by
  intro c hc
  unfold fmtR at hc
  rcases List.mem_append.1 hc with h | h
  · split at h
    · simp at h; omega
    · cases h
  · rcases List.mem_append.1 h with h | h
    · exact dec_codes _ c h
    · split at h
      · cases h
      · rcases List.mem_cons.1 h with rfl | h
        · omega
        · exact dec_codes _ c h

end Go.Proofs.YtfnibkodccfocaaGreat

/- Texts, walks: what a text's bytes are; strings.Cut at a stroke, strings.CutPrefix at a sign. -/
namespace Go.Proofs.YtfnibkodccfocaaGreat
open Go.RowKit

theorem bs_data (l : List Nat) : (bs l).data.toList = l.map UInt8.ofNat := by simp [bs]
theorem bs_extract (l : List Nat) (a b : Nat) : (bs l).extract a b = bs ((l.drop a).take (b - a)) := by
  have h := ByteArray.extract_mk (l.map UInt8.ofNat) a b
  unfold bs
  rw [h, ← List.map_drop, ← List.map_take]
theorem beq_bs {a b : List Nat} (ha : Codes a) (hb : Codes b) : ((bs a).toList == (bs b).toList) = decide (a = b) := by
  have e : ∀ l, (bs l).toList = (bs l).data.toList := fun l => ByteArray.toList_eq _
  rw [e, e]
  by_cases h : a = b
  · subst h; simp
  · rw [decide_eq_false h, beq_eq_false_iff_ne]
    intro e2
    refine h (bs_inj ha hb (ByteArray.ext ?_))
    exact Array.toList_inj.1 e2
theorem emp_bs (a : List Nat) : (bs a).toList.isEmpty = decide (a = []) := by
  rw [show (bs a).toList = (bs a).data.toList from ByteArray.toList_eq _, bs_data]
  cases a <;> simp
theorem idx_at {l : List Nat} (hl : Codes l) {k : Nat} (hk : k < l.length) (W : World) : (Instr.index 9 (.string (bs l)) (.int .i64 (k : Int))).run Tryz.prog W = .ok (.int .u8 ((l.getD k 0 : Nat) : Int)) W := by
  have hs : (bs l).size = l.length := bs_size l
  rw [run_index_string W 9 (bs l) .i64 k Tryz.underlying9, dif_pos ⟨by omega, by omega⟩]
  have e : (bs l)[(k : Int).toNat]'(by rw [hs]; omega) = UInt8.ofNat (l.getD k 0) := by
    simp only [Int.toNat_natCast]
    show (l.map UInt8.ofNat).toArray[k]'(by simp; omega) = _
    simp [List.getD_eq_getElem?_getD, hk]
  have hc : l.getD k 0 < 256 := by
    rw [List.getD_eq_getElem?_getD, List.getElem?_eq_getElem hk]
    exact hl _ (List.getElem_mem hk)
  simp only [e]
  obtain ⟨c, hcc⟩ : ∃ c, l.getD k 0 = c := ⟨_, rfl⟩
  rw [hcc] at hc ⊢
  have : (UInt8.ofNat c).toNat = c := by simp [UInt8.toNat_ofNat']; omega
  rw [this]
theorem u8_inj {a b : Nat} (ha : a < 256) (hb : b < 256) (h : UInt8.ofNat a = UInt8.ofNat b) : a = b := by
  have := congrArg UInt8.toNat h
  simp [UInt8.toNat_ofNat'] at this
  omega
theorem index_stroke {l : List Nat} (hl : Codes l) : (47 ∈ l → ∃ k, k < l.length ∧ Lib.indexByte (l.map UInt8.ofNat) 47 = (k : Int) ∧ top l = l.take k ∧ bot l = l.drop (k + 1)) ∧ (47 ∉ l → Lib.indexByte (l.map UInt8.ofNat) 47 = -1 ∧ top l = l ∧ bot l = []) := by
  induction l with
  | nil => exact ⟨(fun h => by cases h), fun _ => ⟨rfl, rfl, rfl⟩⟩
  | cons x l ih =>
    have hx := hl x (by simp)
    obtain ⟨i1, i2⟩ := ih fun c hc => hl c (by simp [hc])
    by_cases h : x = 47
    · subst h
      refine ⟨fun _ => ⟨0, by simp, by simp [Lib.indexByte], by simp [top], by simp [bot]⟩, fun hn => absurd (by simp) hn⟩
    · have hne : (UInt8.ofNat x == 47) = false := by
        rw [beq_eq_false_iff_ne]
        intro e
        exact h (u8_inj hx (by omega) e)
      have ht : top (x :: l) = x :: top l := by simp [top, h]
      have hb : bot (x :: l) = bot l := by simp [bot, h]
      refine ⟨fun hm => ?_, fun hm => ?_⟩
      · have hm2 : 47 ∈ l := by
          rcases List.mem_cons.1 hm with e | e
          · exact absurd e.symm h
          · exact e
        obtain ⟨k, h1, h2, h3, h4⟩ := i1 hm2
        refine ⟨k + 1, by simp; omega, ?_, by rw [ht, h3]; rfl, by rw [hb, h4]; rfl⟩
        rw [List.map_cons, Lib.indexByte, hne, h2]
        simp <;> omega
      · obtain ⟨h2, h3, h4⟩ := i2 fun e => hm (by simp [e])
        refine ⟨?_, by rw [ht, h3], by rw [hb, h4]⟩
        rw [List.map_cons, Lib.indexByte, hne, h2]
        simp
set_option maxRecDepth 100000 in
set_option maxHeartbeats 800000 in
theorem cutLite_any {l : List Nat} (hl : Codes l) (hn : l.length ≤ 1000) (w : World) : Calls Tryz.prog 103 #[.string (bs l), .string ⟨#[47]⟩] w fun e w' => Below w.heap.size w w' ∧ e = .returned (.tuple #[.string (bs (top l)), .string (bs (bot l)), .bool (decide (47 ∈ l))]) := by
  have hs := bs_size l
  obtain ⟨g1, g2⟩ := index_stroke hl
  have HI : Hid (∀ W, Calls Tryz.prog 124 #[.string (bs l), .string ⟨#[47]⟩] W fun e w' => e = .returned (.int .i64 (Lib.indexByte (l.map UInt8.ofNat) 47)) ∧ w' = W) := Lib.hid fun W => by
    have := Tryz.stringslite_Index_one (bs l) 47 W
    rwa [bs_data] at this
  by_cases hm : 47 ∈ l
  · obtain ⟨k, hk, h2, h3, h4⟩ := g1 hm
    rw [h2] at HI
    have e1 : (bs l).extract 0 k = bs (top l) := by rw [bs_extract, h3, List.drop_zero, Nat.sub_zero]
    have e2 : (bs l).extract (k + 1) l.length = bs (bot l) := by
      rw [bs_extract, h4]
      congr 1
      rw [List.take_of_length_le (by simp)]
    have E1 := Lib.hid e1
    have E2 := Lib.hid e2
    rw [decide_eq_true hm]
    generalize bs l = S at *
    generalize bs (top l) = T1 at *
    generalize bs (bot l) = T2 at *
    clear g1 g2 h2 h3 h4 hm hl e1 e2
    go_enter Tryz.func103, Tryz.ntmps103
    go_upto_region 3 with (go_at_call 124; refine (HI.out _).mono ?_; rintro e w' ⟨rfl, rfl⟩)
    go_quiet (fail)
    go_wp2
    rw [← E1.out, ← E2.out]
    refine bodyPost_ret (v := .tuple #[.string (S.extract 0 k), .string (S.extract (k + 1) l.length), .bool true]) (by simp [results, Tryz.results103, go_sem]) rfl ?_
    exact ⟨(by repeat (first | with_reducible exact Below.refl _ _ | with_reducible assumption | with_reducible refine Below.drew ?_ | with_reducible refine Below.drewN ?_ _ | with_reducible refine Below.alloc2 ?_ _ | with_reducible refine Below.alloc ?_ (by first | omega | (simp <;> omega)) _ | with_reducible refine Below.setCell ?_ (by first | omega | (simp <;> omega)) _ | with_reducible refine Below.step2 (by with_reducible assumption) ?_ | with_reducible refine Below.step (by with_reducible assumption) ?_ (by first | omega | (simp <;> omega)))), rfl⟩
  · obtain ⟨h2, h3, h4⟩ := g2 hm
    rw [h2] at HI
    rw [h3, h4, decide_eq_false hm]
    have e0 : bs [] = ⟨#[]⟩ := rfl
    rw [e0]
    generalize bs l = S at *
    clear g1 g2 h2 h3 h4 hm hl e0
    go_enter Tryz.func103, Tryz.ntmps103
    go_wp2_with (go_at_call 124; refine (HI.out _).mono ?_; rintro e w' ⟨rfl, rfl⟩)
    refine bodyPost_ret (v := .tuple #[.string S, .string ⟨#[]⟩, .bool false]) (by simp [results, Tryz.results103, go_sem]) rfl ?_
    exact ⟨(by repeat (first | with_reducible exact Below.refl _ _ | with_reducible assumption | with_reducible refine Below.drew ?_ | with_reducible refine Below.drewN ?_ _ | with_reducible refine Below.alloc2 ?_ _ | with_reducible refine Below.alloc ?_ (by first | omega | (simp <;> omega)) _ | with_reducible refine Below.setCell ?_ (by first | omega | (simp <;> omega)) _ | with_reducible refine Below.step2 (by with_reducible assumption) ?_ | with_reducible refine Below.step (by with_reducible assumption) ?_ (by first | omega | (simp <;> omega)))), rfl⟩
set_option maxHeartbeats 800000 in
theorem cut_any {l : List Nat} (hl : Codes l) (hn : l.length ≤ 1000) (w : World) : Calls Tryz.prog 78 #[.string (bs l), .string ⟨#[47]⟩] w fun e w' => Below w.heap.size w w' ∧ e = .returned (.tuple #[.string (bs (top l)), .string (bs (bot l)), .bool (decide (47 ∈ l))]) := by
  have HC : Hid (∀ W, Calls Tryz.prog 103 #[.string (bs l), .string ⟨#[47]⟩] W fun e w' => Below W.heap.size W w' ∧ e = .returned (.tuple #[.string (bs (top l)), .string (bs (bot l)), .bool (decide (47 ∈ l))])) := Lib.hid fun W => cutLite_any hl hn W
  generalize bs l = S at *
  generalize bs (top l) = T1 at *
  generalize bs (bot l) = T2 at *
  generalize decide (47 ∈ l) = B at *
  clear hl hn
  go_enter Tryz.func78, Tryz.ntmps78
  go_wp2_with (go_at_call 103; refine (HC.out _).mono ?_; rintro e w1 ⟨hb1, rfl⟩)
  refine bodyPost_ret (v := .tuple #[.string T1, .string T2, .bool B]) (by simp [results, Tryz.results78, go_sem]) rfl ?_
  exact ⟨(by repeat (first | with_reducible exact Below.refl _ _ | with_reducible assumption | with_reducible refine Below.drew ?_ | with_reducible refine Below.drewN ?_ _ | with_reducible refine Below.alloc2 ?_ _ | with_reducible refine Below.alloc ?_ (by first | omega | (simp <;> omega)) _ | with_reducible refine Below.setCell ?_ (by first | omega | (simp <;> omega)) _ | with_reducible refine Below.step2 (by with_reducible assumption) ?_ | with_reducible refine Below.step (by with_reducible assumption) ?_ (by first | omega | (simp <;> omega)))), rfl⟩
theorem prefix_any {l : List Nat} (hl : Codes l) (w : World) : Calls Tryz.prog 77 #[.string (bs l), .string ⟨#[45]⟩] w fun e w' => w = w' ∧ e = .returned (.tuple #[.string (bs (offN l)), .bool (ngB l)]) := by
  refine (Tryz.strings_CutPrefix (bs l) ⟨#[45]⟩ w).mono ?_
  rintro e w' ⟨rfl, rfl⟩
  refine ⟨rfl, ?_⟩
  have h1 : Lib.hasPrefix (bs l).data.toList (⟨#[45]⟩ : ByteArray).data.toList = ngB l := by
    rw [bs_data]
    cases l with
    | nil => rfl
    | cons x l =>
      have hx := hl x (by simp)
      unfold Lib.hasPrefix ngB
      by_cases h : x = 45
      · subst h; simp
      · have hne : UInt8.ofNat x ≠ 45 := fun e => h (u8_inj hx (by omega) e)
        have hb : ((45 : UInt8) == UInt8.ofNat x) = false := by rw [beq_eq_false_iff_ne]; exact Ne.symm hne
        simp [h, List.isPrefixOf, hb]
  have h2 : (⟨(Lib.trimPrefix (bs l).data.toList (⟨#[45]⟩ : ByteArray).data.toList).toArray⟩ : ByteArray) = bs (offN l) := by
    unfold Lib.trimPrefix
    rw [h1]
    unfold offN
    split
    · rw [bs_data]
      cases l with
      | nil => rfl
      | cons x l => rfl
    · rfl
  rw [h1, h2]

end Go.Proofs.YtfnibkodccfocaaGreat

/- Texts, the program: natural. -/
namespace Go.Proofs.YtfnibkodccfocaaGreat
open Go Go.RowKit

theorem natP_snoc (l : List Nat) (c : Nat) : natP (l ++ [c]) = natP l * 10 + (c + 208) % 256 := by unfold natP; rw [List.foldl_append]; rfl
theorem natP_lt : ∀ (l : List Nat), natP l < 512 ^ l.length := by
  have key : ∀ (n : Nat) (l : List Nat), l.length = n → natP l < 512 ^ n := by
    intro n
    induction n with
    | zero =>
      intro l h
      obtain rfl := List.length_eq_zero_iff.1 h
      decide
    | succ n ih =>
      intro l h
      obtain ⟨m, c, rfl⟩ : ∃ m c, l = m ++ [c] := by
        rcases List.eq_nil_or_concat l with rfl | ⟨m, c, e⟩
        · cases h
        · exact ⟨m, c, by simpa using e⟩
      have h1 := ih m (by simpa using h)
      rw [natP_snoc, Nat.pow_succ]
      omega
  exact fun l => key _ l rfl
theorem W_282 : (512 : Nat) ^ 1000 ≤ W 282 := by decide +kernel
theorem natP_take {l : List Nat} {k : Nat} (hk : k < l.length) : natP (l.take (k + 1)) = natP (l.take k) * 10 + (l.getD k 0 + 208) % 256 := by
  rw [List.take_succ_eq_append_getElem hk, natP_snoc, List.getD_eq_getElem?_getD, List.getElem?_eq_getElem hk]
  rfl
theorem natP_small {l : List Nat} (h : l.length ≤ 1000) : natP l < W 282 := Nat.lt_of_lt_of_le (natP_lt l) (Nat.le_trans (Nat.pow_le_pow_right (by omega) h) W_282)
set_option maxRecDepth 100000 in
set_option maxHeartbeats 800000 in
theorem natural_any {l : List Nat} (hl : Codes l) (hn : l.length ≤ 1000) (w : World) : Calls Tryz.prog 79 #[.string (bs l)] w (NatR (natP l) w) := by
  have hs := bs_size l
  have HIX : Hid (∀ k, k < l.length → ∀ W, (Instr.index 9 (.string (bs l)) (.int .i64 (k : Int))).run Tryz.prog W = .ok (.int .u8 ((l.getD k 0 : Nat) : Int)) W) := Lib.hid fun k hk W => idx_at hl hk W
  have HSM : Hid (∀ k, natP (l.take k) < W 282) := Lib.hid fun k => natP_small (by rw [List.length_take]; omega)
  have HCD : Hid (∀ k, k < l.length → l.getD k 0 < 256) := Lib.hid fun k hk => by rw [List.getD_eq_getElem?_getD, List.getElem?_eq_getElem hk]; exact hl _ (List.getElem_mem hk)
  have hsz : ((bs l).size : Int) = ((l.length : Nat) : Int) := by rw [hs]
  generalize bs l = S at *
  clear hl
  go_enter Tryz.func79, Tryz.ntmps79
  go_wp2
  go_loopw [3, 7] (fun v3 v7 wr => ∃ (k : Nat) (A : Option Addr) (n c : Nat) (ls : List Nat), k ≤ l.length ∧ v7 = .int .i64 (k : Int) ∧ v3 = .slice A n c ∧ Hid (∀ w', Below wr.heap.size wr w' → Lim w' w'.heap.size A n c ls) ∧ Norm ls ∧ Hid (val ls = natP (l.take k)) ∧ Below w.heap.size w wr) (fun _ v7 _ => l.length - (intOf v7).toNat)
  case atStart => exact ⟨0, none, 0, 0, [], Nat.zero_le _, rfl, rfl, Lib.hid fun _ _ => Lim.nil_ _ _, by simp [Norm], Lib.hid rfl, Below.refl _ _⟩
  case round =>
    obtain ⟨k, A, n, c, ls, hk, rfl, rfl, HL, hno, HV, hb⟩ := hrel
    obtain ⟨wo, rfl⟩ : ∃ x, x = wr := ⟨_, rfl⟩
    have HB := Lib.hid hb
    have HN := Lib.hid hno
    have hlen : n ≤ 282 := by
      rw [← (HL.out wo (Below.refl _ _)).len]
      exact norm_len_le hno (by rw [HV.out]; exact HSM.out k)
    clear hb hno
    rcases Nat.lt_or_ge k l.length with hlt | hge
    · have hix := HIX.out k hlt
      have hc := HCD.out k hlt
      have htk := natP_take hlt
      obtain ⟨ch, hch⟩ : ∃ ch, l.getD k 0 = ch := ⟨_, rfl⟩
      rw [hch] at hix hc htk
      have HTK := Lib.hid htk
      have hw1 : IntKind.u8.wrap ((ch : Int) - 48) = (((ch + 208) % 256 : Nat) : Int) := by
        unfold IntKind.wrap
        simp [IntKind.bits, IntKind.signed]
        omega
      obtain ⟨dg, hdg⟩ : ∃ dg, (ch + 208) % 256 = dg := ⟨_, rfl⟩
      rw [hdg] at hw1 HTK
      have hdl : dg < 256 := by omega
      have hw2 : IntKind.u64.wrap (dg : Int) = (dg : Int) := by
        unfold IntKind.wrap
        simp [IntKind.bits, IntKind.signed]
        omega
      clear hch htk hdg
      go_upto_region 5 with fail
      refine region_goes (n := 11) (fun _ => True) [] (by kernel_rfl) rfl ?_
      refine goes_takeE (i := 0) (E := []) (v := .slice A n c) rfl (by kernel_rfl) rfl (fun _ _ _ h => h) (by intro w' _; go_simp) trivial ?_
      refine goes_takeE (i := 3) (E := []) (v := .string S) rfl (by kernel_rfl) rfl (fun _ _ _ h => h) (by intro w' _; go_simp) trivial ?_
      refine goes_takeE (i := 4) (E := []) (v := .int .i64 (k : Int)) rfl (by kernel_rfl) rfl (fun _ _ _ h => h) (by intro w' _; go_simp) trivial ?_
      refine goes_takeE (i := 5) (E := []) (v := .int .u8 (ch : Int)) rfl (by kernel_rfl) rfl (fun _ _ _ h => h) (by intro w' _; go_simp) trivial ?_
      refine goes_takeE (i := 6) (E := []) (v := .int .u8 (dg : Int)) rfl (by kernel_rfl) rfl (fun _ _ _ h => h) (by intro w' _; go_simp) trivial ?_
      refine goes_takeE (i := 7) (E := []) (v := .int .u64 (dg : Int)) rfl (by kernel_rfl) rfl (fun _ _ _ h => h) (by intro w' _; go_simp) trivial ?_
      refine goes_call (i := 1) rfl (by kernel_rfl) ?_
      go_wp2_with fail
      refine behind_ok ⟨trivial, ?_⟩
      obtain ⟨W1, hW1⟩ : ∃ W, W = (wo.alloc (.cells #[.int .u32 10] 75)).drew := ⟨_, rfl⟩
      have hb1 : Below wo.heap.size wo W1 := by rw [hW1]; exact (by repeat (first | with_reducible exact Below.refl _ _ | with_reducible assumption | with_reducible refine Below.drew ?_ | with_reducible refine Below.drewN ?_ _ | with_reducible refine Below.alloc2 ?_ _ | with_reducible refine Below.alloc ?_ (by first | omega | (simp <;> omega)) _ | with_reducible refine Below.setCell ?_ (by first | omega | (simp <;> omega)) _ | with_reducible refine Below.step2 (by with_reducible assumption) ?_ | with_reducible refine Below.step (by with_reducible assumption) ?_ (by first | omega | (simp <;> omega))))
      have h10 : Lim W1 W1.heap.size (some ⟨wo.heap.size, 0, none⟩) 1 1 [10] := by
        rw [hW1]
        refine ⟨?_, Bd.nil.cons (by omega)⟩
        have := (show Bk (wo.alloc (.cells #[.int .u32 10] 75)).drew wo.heap.size 75 #[.int .u32 10] from Bk.alloc_ wo 75 #[.int .u32 10]).sl (B := (wo.alloc (.cells #[.int .u32 10] 75)).drew.heap.size) (size := 1) (n := 1) (c := 1) (by simp) (by omega) (by omega) (by simp)
        simpa [u32s] using this
      rw [← hW1]
      have HB1 := Lib.hid hb1
      clear hW1 hb1
      refine goes_call (i := 2) rfl (by kernel_rfl) ?_
      go_wp2_with (go_at_call 65; go_loud ((with_reducible refine (multiplyLimbs_any A _ n c 1 1 ls [10] _ (HL.out _ HB1.out) h10 (by omega) (by omega)).mono ?_); rintro e w2 ⟨hb2, A2, m2, c2, l2, rfl, hl2, hn2, hv2⟩))
      have H2 := Lib.hid hl2
      have HN2 := Lib.hid hn2
      have HV2 := Lib.hid hv2
      have HB2 : Hid (Below wo.heap.size wo w2) := Lib.hid (below_to HB1.out hb2 HB1.out.size)
      refine behind_ok ⟨trivial, ?_⟩
      clear hl2 hn2 hv2 hb2 h10 HB1
      refine goes_call (i := 8) rfl (by kernel_rfl) ?_
      go_wp2_with (go_at_call 57; go_loud ((with_reducible refine (limbsOf_any dg _ (by omega)).mono ?_); rintro e w3 ⟨hb3, A3, m3, c3, l3, rfl, hl3, hn3, hv3⟩))
      have H3 := Lib.hid hl3
      have HV3 := Lib.hid hv3
      have HN3 := Lib.hid hn3
      have HB23 := Lib.hid hb3
      have HB3 : Hid (Below wo.heap.size wo w3) := Lib.hid (below_to HB2.out hb3 HB2.out.size)
      refine behind_ok ⟨trivial, ?_⟩
      clear hl3 hv3 hb3 hn3
      have hm2 : m2 ≤ 314 := by
        rw [← H2.out.len]
        refine norm_len_le HN2.out ?_
        rw [HV2.out, HV.out]
        have h1 := HSM.out k
        have h2 : val [10] ≤ W 32 := by decide +kernel
        have h3 : W 314 = W 282 * W 32 := by decide +kernel
        rw [h3]
        exact Nat.lt_of_lt_of_le (Nat.mul_lt_mul_of_pos_right h1 (by decide)) (Nat.mul_le_mul_left _ h2)
      have hm3 : m3 ≤ 2 := by
        rw [← H3.out.len]
        refine norm_len_le HN3.out ?_
        rw [HV3.out]
        exact Nat.lt_of_lt_of_le hdl (by decide +kernel)
      refine goes_call (i := 9) rfl (by kernel_rfl) ?_
      go_wp2_with (go_at_call 59; go_loud ((with_reducible refine (addLimbs_any A2 A3 m2 c2 m3 c3 l2 l3 _ (H2.out.below HB23.out (Nat.le_refl _) HB23.out.size) H3.out (by omega) (by omega)).mono ?_); rintro e w4 ⟨hb4, A4, m4, c4, l4, rfl, hl4, hn4, hv4⟩))
      have H4 := Lib.hid hl4
      have HV4 : Hid (val l4 = natP (l.take (k + 1))) := Lib.hid (by
        rw [hv4, HV2.out, HV3.out, HTK.out, HV.out]
        rfl)
      have HN4 := Lib.hid hn4
      have HB4 : Hid (Below wo.heap.size wo w4) := Lib.hid (below_to HB3.out hb4 HB3.out.size)
      refine behind_ok ⟨trivial, ?_⟩
      clear hl4 hv4 hb4 hn4 HB2 HB3 H2 H3 HV2 HV3 HB23 HN2 HN3
      refine goes_call (i := 10) rfl (by kernel_rfl) ?_
      go_wp2_with fail
      refine behind_ok ⟨trivial, ?_⟩
      refine goes_done (by kernel_rfl) ?_
      go_wp2
      go_roundw
      case rel => exact ⟨k + 1, A4, m4, c4, l4, by omega, by go_num, rfl, Lib.hid fun w' hb' => H4.out.below hb' (Nat.le_refl _) hb'.size, HN4.out, HV4, below_to HB.out HB4.out HB.out.size⟩
      case measure => simp [intOf]; omega
    · obtain rfl : k = l.length := by omega
      go_wp2
      go_ret
      refine ⟨HB.out, A, n, c, ls, rfl, HL.out _ (Below.refl _ _), HN.out, ?_⟩
      rw [HV.out, List.take_length]

end Go.Proofs.YtfnibkodccfocaaGreat

/- Texts, the reference: read. -/
namespace Go.Proofs.YtfnibkodccfocaaGreat
open Go Go.RowKit

theorem natR_snoc (l : List Nat) (c : Nat) : natR (l ++ [c]) = if 48 ≤ c ∧ c ≤ 57 then natR l * 10 + (c - 48) else natR l := by unfold natR; rw [List.foldl_append]; rfl
theorem natR_lt : ∀ (l : List Nat), natR l < 16 ^ l.length := by
  have key : ∀ (n : Nat) (l : List Nat), l.length = n → natR l < 16 ^ n := by
    intro n
    induction n with
    | zero =>
      intro l h
      obtain rfl := List.length_eq_zero_iff.1 h
      decide
    | succ n ih =>
      intro l h
      obtain ⟨m, c, rfl⟩ : ∃ m c, l = m ++ [c] := by
        rcases List.eq_nil_or_concat l with rfl | ⟨m, c, e⟩
        · cases h
        · exact ⟨m, c, by simpa using e⟩
      have h1 := ih m (by simpa using h)
      rw [natR_snoc, Nat.pow_succ]
      split <;> omega
  exact fun l => key _ l rfl
theorem W_13 : (16 : Nat) ^ 100 ≤ W 13 := by decide +kernel
theorem natR_take {l : List Nat} {k : Nat} (hk : k < l.length) : natR (l.take (k + 1)) = if 48 ≤ l.getD k 0 ∧ l.getD k 0 ≤ 57 then natR (l.take k) * 10 + (l.getD k 0 - 48) else natR (l.take k) := by
  rw [List.take_succ_eq_append_getElem hk, natR_snoc, List.getD_eq_getElem?_getD, List.getElem?_eq_getElem hk]
  rfl
theorem natR_small {l : List Nat} (h : l.length ≤ 100) : natR l < W 13 := Nat.lt_of_lt_of_le (natR_lt l) (Nat.le_trans (Nat.pow_le_pow_right (by omega) h) W_13)
set_option maxRecDepth 100000 in
set_option maxHeartbeats 800000 in
theorem refRead_any {l : List Nat} (hl : Codes l) (hn : l.length ≤ 100) (w : World) : Calls Tryz.prog 80 #[.string (bs l)] w (MakesInt (rdI l) 13 w) := by
  have hs := bs_size l
  have HIX : Hid (∀ k, k < l.length → ∀ W, (Instr.index 9 (.string (bs l)) (.int .i64 (k : Int))).run Tryz.prog W = .ok (.int .u8 ((l.getD k 0 : Nat) : Int)) W) := Lib.hid fun k hk W => idx_at hl hk W
  have HSM : Hid (∀ k, natR (l.take k) < W 13) := Lib.hid fun k => natR_small (by rw [List.length_take]; omega)
  have HCD : Hid (∀ k, k < l.length → l.getD k 0 < 256) := Lib.hid fun k hk => by rw [List.getD_eq_getElem?_getD, List.getElem?_eq_getElem hk]; exact hl _ (List.getElem_mem hk)
  have hsz : ((bs l).size : Int) = ((l.length : Nat) : Int) := by rw [hs]
  generalize bs l = S at *
  clear hl
  go_enter Tryz.func80, Tryz.ntmps80
  go_upto_region 2 with fail
  obtain ⟨T, hT⟩ : ∃ T, T = ((w.alloc (.cells #[.bool false, .slice none 0 0] 24)).alloc (.cells #[.bool false, .slice none 0 0] 24)) := ⟨_, rfl⟩
  have hbt : Below w.heap.size w T := by rw [hT]; exact (by repeat (first | with_reducible exact Below.refl _ _ | with_reducible assumption | with_reducible refine Below.drew ?_ | with_reducible refine Below.drewN ?_ _ | with_reducible refine Below.alloc2 ?_ _ | with_reducible refine Below.alloc ?_ (by first | omega | (simp <;> omega)) _ | with_reducible refine Below.setCell ?_ (by first | omega | (simp <;> omega)) _ | with_reducible refine Below.step2 (by with_reducible assumption) ?_ | with_reducible refine Below.step (by with_reducible assumption) ?_ (by first | omega | (simp <;> omega))))
  have h2t : Bk T w.heap.size 24 #[.bool false, .slice none 0 0] := by rw [hT]; exact (by repeat (first | with_reducible assumption | with_reducible exact Bk.at_ (by first | (simp; done) | omega) | with_reducible refine Bk.alloc ?_ _ | with_reducible refine Bk.drew ?_ | with_reducible refine Bk.drewN ?_ _ | with_reducible refine Bk.step (by with_reducible assumption) ?_ (by first | omega | (simp <;> omega))))
  have h3t : Bk T (w.heap.size + 1) 24 #[.bool false, .slice none 0 0] := by rw [hT]; exact (by repeat (first | with_reducible assumption | with_reducible exact Bk.at_ (by first | (simp; done) | omega) | with_reducible refine Bk.alloc ?_ _ | with_reducible refine Bk.drew ?_ | with_reducible refine Bk.drewN ?_ _ | with_reducible refine Bk.step (by with_reducible assumption) ?_ (by first | omega | (simp <;> omega))))
  rw [← hT]
  clear hT
  go_wp2
  go_loopw [4] (fun v4 wr => ∃ (k : Nat) (s : Bool) (A : Option Addr) (n c : Nat), k ≤ l.length ∧ v4 = .int .i64 (k : Int) ∧ Bk wr w.heap.size 24 #[.bool false, .slice none 0 0] ∧ Bk wr (w.heap.size + 1) 24 #[.bool s, .slice A n c] ∧ IntH wr s A n c (natR (l.take k) : Int) 13 true ∧ Below w.heap.size w wr) (fun v4 _ => l.length - (intOf v4).toNat)
  case atStart => exact ⟨0, false, none, 0, 0, Nat.zero_le _, rfl, h2t, h3t, (IntH.nil_ _).tight (by simpa using W_pos _), hbt⟩
  case round =>
    clear hbt h2t h3t
    obtain ⟨k, s, A, n, c, hk, rfl, h2, h3, hi, hb⟩ := hrel
    obtain ⟨wo, rfl⟩ : ∃ x, x = wr := ⟨_, rfl⟩
    have HBo := Lib.hid hb
    have H2o := Lib.hid h2
    have H3o := Lib.hid h3
    have HIo := Lib.hid hi
    clear hb h2 h3 hi
    rcases Nat.lt_or_ge k l.length with hlt | hge
    · have hix := HIX.out k hlt
      have hc := HCD.out k hlt
      have htk := natR_take hlt
      have hsm := HSM.out (k + 1)
      obtain ⟨ch, hch⟩ : ∃ ch, l.getD k 0 = ch := ⟨_, rfl⟩
      rw [hch] at hix hc htk
      clear hch
      by_cases hd : 48 ≤ ch ∧ ch ≤ 57
      · obtain ⟨hd1, hd2⟩ := hd
        rw [if_pos ⟨hd1, hd2⟩] at htk
        obtain ⟨dg, hdg⟩ : ∃ dg, ch - 48 = dg := ⟨_, rfl⟩
        have hsub : (ch : Int) - 48 = (dg : Int) := by omega
        have e1 : decide ((ch : Int) ≥ 48) = true := decide_eq_true (by omega)
        have e2 : decide ((ch : Int) ≤ 57) = true := decide_eq_true (by omega)
        rw [hdg] at htk
        have hdl : dg < 10 := by omega
        have HTK := Lib.hid htk
        have HS1 := Lib.hid hsm
        clear htk hdg hsm
        go_upto_region 6 with fail
        have hw1 : IntKind.u8.wrap ((ch : Int) - 48) = (dg : Int) := by
          rw [hsub]
          unfold IntKind.wrap
          simp [IntKind.bits, IntKind.signed]
          omega
        have hw2 : IntKind.i64.wrap (dg : Int) = (dg : Int) := IntWalk.i64_in _ (by omega)
        have hw3 : IntKind.u8.wrap (dg : Int) = (dg : Int) := by rwa [hsub] at hw1
        have HC : Hid ((fun w' : World => w'.cell? ⟨w.heap.size + 1, 0, none⟩ = some (.bool s) ∧ w'.cell? ⟨w.heap.size + 1, 1, none⟩ = some (.slice A n c)) wo.drew) := Lib.hid H3o.out.duo
        refine region_goes (n := 11) (fun w' => w'.cell? ⟨w.heap.size + 1, 0, none⟩ = some (.bool s) ∧ w'.cell? ⟨w.heap.size + 1, 1, none⟩ = some (.slice A n c)) [10] (by kernel_rfl) rfl ?_
        refine goes_takeE (i := 0) (E := [10]) (v := .agg #[.bool s, .slice A n c]) rfl (by kernel_rfl) rfl (fun _ _ _ h => h) (by intro w' hw'; obtain ⟨z0, z1⟩ := hw'; go_simp) HC.out ?_
        refine goes_takeE (i := 3) (E := [10]) (v := .string S) rfl (by kernel_rfl) rfl (fun _ _ _ h => h) (by intro w' hw'; obtain ⟨z0, z1⟩ := hw'; go_simp) HC.out ?_
        refine goes_takeE (i := 4) (E := [10]) (v := .int .i64 (k : Int)) rfl (by kernel_rfl) rfl (fun _ _ _ h => h) (by intro w' hw'; obtain ⟨z0, z1⟩ := hw'; go_simp) HC.out ?_
        refine goes_takeE (i := 5) (E := [10]) (v := .int .u8 (ch : Int)) rfl (by kernel_rfl) rfl (fun _ _ _ h => h) (by intro w' hw'; obtain ⟨z0, z1⟩ := hw'; go_simp) HC.out ?_
        refine goes_takeE (i := 6) (E := [10]) (v := .int .u8 (dg : Int)) rfl (by kernel_rfl) rfl (fun _ _ _ h => h) (by intro w' hw'; obtain ⟨z0, z1⟩ := hw'; go_simp) HC.out ?_
        refine goes_takeE (i := 7) (E := [10]) (v := .int .i64 (dg : Int)) rfl (by kernel_rfl) rfl (fun _ _ _ h => h) (by intro w' hw'; obtain ⟨z0, z1⟩ := hw'; go_simp) HC.out ?_
        refine goes_call (i := 1) rfl (by kernel_rfl) ?_
        go_wp2_with (go_at_call 13; go_loud (with_reducible refine (rofH 10 _ (by omega) (by omega)).mono ?_; rintro e wa ⟨hba, sa, Aa, na, ca, rfl, ia⟩; have hba := below_drew hba; have HBa := Lib.hid (below_to HBo.out hba HBo.out.size); have H2a := Lib.hid (H2o.out.below hba H2o.out.lt); have H3a := Lib.hid (H3o.out.below hba H3o.out.lt); have HIa := Lib.hid ia; have HIk := Lib.hid (HIo.out.later hba); clear hba ia))
        refine behind_ok ⟨H3a.out.duo, ?_⟩
        refine goes_call (i := 2) rfl (by kernel_rfl) ?_
        go_wp2_with (go_at_call 19; go_loud (with_reducible refine (rprodH HIk.out HIa.out (Below.refl _ _) (Below.refl _ _) (by omega) (by omega)).mono ?_; rintro e wb ⟨hbb, sb, Ab, nb, cb, rfl, ib⟩; have HBb := Lib.hid (below_to HBa.out hbb HBa.out.size); have H2b := Lib.hid (H2a.out.below hbb H2a.out.lt); have H3b := Lib.hid (H3a.out.below hbb H3a.out.lt); have HIb := Lib.hid ib; clear hbb ib))
        refine behind_ok ⟨H3b.out.duo, ?_⟩
        refine goes_call (i := 8) rfl (by kernel_rfl) ?_
        go_wp2_with (go_at_call 13; go_loud (with_reducible refine (rofH (dg : Int) _ (by omega) (by omega)).mono ?_; rintro e wd ⟨hbd, sd, Ad, nd, cd, rfl, id⟩; have HBd := Lib.hid (below_to HBb.out hbd HBb.out.size); have H2d := Lib.hid (H2b.out.below hbd H2b.out.lt); have H3d := Lib.hid (H3b.out.below hbd H3b.out.lt); have HId := Lib.hid id; have HIe := Lib.hid (HIb.out.later hbd); clear hbd id))
        refine behind_ok ⟨H3d.out.duo, ?_⟩
        refine goes_call (i := 9) rfl (by kernel_rfl) ?_
        go_wp2_with (go_at_call 15; go_loud (with_reducible refine (rsumH HIe.out HId.out (Below.refl _ _) (Below.refl _ _) (by omega) (by omega)).mono ?_; rintro e wf ⟨hbf, sf, Af, nf, cf, rfl, hf⟩; have HBf := Lib.hid (below_to HBd.out hbf HBd.out.size); have H2f := Lib.hid (H2d.out.below hbf H2d.out.lt); have H3f := Lib.hid (H3d.out.below hbf H3d.out.lt); have HIf := Lib.hid hf; clear hbf hf))
        refine behind_ok ⟨H3f.out.duo, ?_⟩
        have hk3 := H3f.out
        obtain ⟨r0, r1⟩ := hk3.duo
        have f0 := hk3.frozen 0
        have f1 := hk3.frozen 1
        have hif := HIf.out
        have hval : (natR (l.take k) : Int) * 10 + (dg : Int) = ((natR (l.take (k + 1)) : Nat) : Int) := by rw [HTK.out]; push_cast; rfl
        rw [hval] at hif
        have hif := hif.tight (K' := 13) (by rw [Int.natAbs_natCast]; exact HS1.out)
        refine goes_last (i := 10) rfl (by kernel_rfl) (by kernel_rfl) ?_
        go_wp2_with fail
        refine behind_ok (goes_done (by kernel_rfl) ?_)
        go_wp2
        go_roundw
        case rel => exact ⟨k + 1, sf, Af, nf, cf, by omega, by go_num, H2f.out.two (by omega) _ _, hk3.duoset _ _, hif.past hk3 _ _, (HBf.out.setCell (show w.heap.size ≤ w.heap.size + 1 by omega) _).setCell (show w.heap.size ≤ w.heap.size + 1 by omega) _⟩
        case measure => simp [intOf]; omega
      · rw [if_neg hd] at htk
        have HTK := Lib.hid htk
        clear htk hsm
        by_cases h48 : 48 ≤ ch
        · have e1 : decide ((ch : Int) ≥ 48) = true := decide_eq_true (by omega)
          have e2 : decide ((ch : Int) ≤ 57) = false := decide_eq_false (by omega)
          go_wp2
          go_roundw
          case rel => exact ⟨k + 1, s, A, n, c, by omega, by go_num, H2o.out, H3o.out, by rw [HTK.out]; exact HIo.out, HBo.out⟩
          case measure => simp [intOf]; omega
        · have e1 : decide ((ch : Int) ≥ 48) = false := decide_eq_false (by omega)
          go_wp2
          go_roundw
          case rel => exact ⟨k + 1, s, A, n, c, by omega, by go_num, H2o.out, H3o.out, by rw [HTK.out]; exact HIo.out, HBo.out⟩
          case measure => simp [intOf]; omega
    · obtain rfl : k = l.length := by omega
      rw [List.take_length] at HIo
      obtain ⟨r0, r1⟩ := H3o.out.duo
      obtain ⟨q0, q1⟩ := H2o.out.duo
      have f0 := H2o.out.frozen 0
      have f1 := H2o.out.frozen 1
      have og := H2o.out.lt
      have hb := HBo.out
      have hi := HIo.out
      clear HSM HCD
      cases l with
      | nil =>
        have e0 : ((([] : List Nat).length : Nat) : Int) = 0 := rfl
        clear HIX
        go_wp2
        obtain ⟨y0, y1⟩ := (H2o.out.duoset (.bool s) (.slice A n c)).duo
        refine bodyPost_ret (v := .agg #[.bool s, .slice A n c]) (by simp [results, Tryz.results80, go_sem, y0, y1]) rfl ?_
        exact ⟨(hb.setCell (Nat.le_refl _) _).setCell (Nat.le_refl _) _, s, A, n, c, rfl, hi.past H2o.out _ _⟩
      | cons x l =>
        have hix := HIX.out 0 (by simp)
        have hg : ((x :: l).getD 0 0) = x := rfl
        rw [hg] at hix
        have hix : ∀ W, (Instr.index 9 (.string S) (.int .i64 0)).run Tryz.prog W = .ok (.int .u8 (x : Int)) W := hix
        obtain ⟨N, hN⟩ : ∃ N, (x :: l).length = N := ⟨_, rfl⟩
        have hN1 : 0 < N := by rw [← hN]; simp
        have HRD : Hid (rdI (x :: l) = if x = 45 then -(natR (x :: l) : Int) else (natR (x :: l) : Int)) := Lib.hid (by unfold rdI; simp)
        rw [hN] at hs hsz ⊢
        clear HIX hg hN hi
        by_cases h45 : x = 45
        · have e1 : ((x : Int) == 45) = true := by simpa using (show (x : Int) = 45 by omega)
          have HRD2 : Hid (rdI (x :: l) = -(natR (x :: l) : Int)) := Lib.hid (by rw [HRD.out, if_pos h45])
          clear HRD h45
          go_wp2_with (go_at_call 64; go_loud (with_reducible refine (rminusH HIo.out (Below.refl _ _) (by omega)).mono ?_; rintro e wa ⟨hba, sa, Aa, na, ca, rfl, ia⟩; have HBa := Lib.hid (below_to HBo.out hba HBo.out.size); have H2a := Lib.hid (H2o.out.below hba H2o.out.lt); have H3a := Lib.hid (H3o.out.below hba H3o.out.lt); obtain ⟨v0, v1⟩ := H2a.out.duo; have g0 := H2a.out.frozen 0; have g1 := H2a.out.frozen 1; have oga := H2a.out.lt; have HIa := Lib.hid ia; clear hba ia q0 q1 f0 f1 r0 r1))
          obtain ⟨y0, y1⟩ := (H2a.out.duoset (.bool sa) (.slice Aa na ca)).duo
          refine bodyPost_ret (v := .agg #[.bool sa, .slice Aa na ca]) (by simp [results, Tryz.results80, go_sem, y0, y1]) rfl ?_
          rw [HRD2.out]
          exact ⟨(HBa.out.setCell (Nat.le_refl _) _).setCell (Nat.le_refl _) _, sa, Aa, na, ca, rfl, HIa.out.past H2a.out _ _⟩
        · have e1 : ((x : Int) == 45) = false := by simpa using (show ¬ (x : Int) = 45 by omega)
          have HRD2 : Hid (rdI (x :: l) = (natR (x :: l) : Int)) := Lib.hid (by rw [HRD.out, if_neg h45])
          clear HRD h45
          go_wp2
          obtain ⟨y0, y1⟩ := (H2o.out.duoset (.bool s) (.slice A n c)).duo
          refine bodyPost_ret (v := .agg #[.bool s, .slice A n c]) (by simp [results, Tryz.results80, go_sem, y0, y1]) rfl ?_
          rw [HRD2.out]
          exact ⟨(hb.setCell (Nat.le_refl _) _).setCell (Nat.le_refl _) _, s, A, n, c, rfl, HIo.out.past H2o.out _ _⟩

end Go.Proofs.YtfnibkodccfocaaGreat

/- Texts, the reference: digits. -/
namespace Go.Proofs.YtfnibkodccfocaaGreat
open Go Go.RowKit

/-- What is still to be written, and what is written. -/
def DigS (v m : Nat) (T : List Nat) : Prop := (T = [] ∧ m = v) ∨ (T ≠ [] ∧ dec v = (if m = 0 then [] else dec m) ++ T)
theorem DigS.next {v m : Nat} {T : List Nat} (h : DigS v m T) (h2 : T = [] ∨ 0 < m) : DigS v (m / 10) ((m % 10 + 48) :: T) := by
  right
  refine ⟨by simp, ?_⟩
  rcases h with ⟨rfl, rfl⟩ | ⟨h3, h4⟩
  · exact dec_step m
  · have hm : m ≠ 0 := by
      rcases h2 with h | h
      · exact absurd h h3
      · omega
    rw [h4, if_neg hm, dec_step m, List.append_assoc]
    rfl
theorem DigS.end_ {v : Nat} {T : List Nat} (h : DigS v 0 T) (h2 : T ≠ []) : dec v = T := by
  rcases h with ⟨h3, -⟩ | ⟨-, h4⟩
  · exact absurd h3 h2
  · rw [if_pos rfl, List.nil_append] at h4
    exact h4
theorem dig_slice {d : Nat} (hd : d < 10) (W : World) : (Instr.slice 9 (.string ⟨#[48, 49, 50, 51, 52, 53, 54, 55, 56, 57]⟩) (some (.int .i64 (d : Int))) (some (.int .i64 ((d : Int) + 1))) none).run Tryz.prog W = .ok (.string ((⟨#[48, 49, 50, 51, 52, 53, 54, 55, 56, 57]⟩ : ByteArray).extract d (d + 1))) W := by
  have hs : ((⟨#[48, 49, 50, 51, 52, 53, 54, 55, 56, 57]⟩ : ByteArray).size : Int) = 10 := rfl
  have := run_slice_string (P := Tryz.prog) W 9 ⟨#[48, 49, 50, 51, 52, 53, 54, 55, 56, 57]⟩ .i64 .i64 (d : Int) ((d : Int) + 1) Tryz.underlying9 (by omega) (by omega) (by rw [hs]; omega)
  rw [this]
  rfl
theorem dig_at : ∀ d, d < 10 → (⟨#[48, 49, 50, 51, 52, 53, 54, 55, 56, 57]⟩ : ByteArray).extract d (d + 1) = bs [d + 48] := by decide
set_option maxRecDepth 100000 in
set_option maxHeartbeats 1600000 in
theorem digits_any {s : Bool} {A : Option Addr} {n c K v : Nat} {w1 w : World} (h : IntH w1 s A n c (v : Int) K true) (b1 : Below w1.heap.size w1 w) (hk0 : 0 < K) (hk : K ≤ 90) :
    Calls Tryz.prog 83 #[.agg #[.bool s, .slice A n c]] w fun e w' => Below w.heap.size w w' ∧ e = .returned (.string (bs (dec v))) := by
  have hvK : v < W K := by have := h.abs; rwa [Int.natAbs_natCast] at this
  have H10 : Hid (10 < W K) := Lib.hid (Nat.lt_of_lt_of_le (by decide +kernel : 10 < W 1) (W_mono hk0))
  go_enter Tryz.func83, Tryz.ntmps83
  go_upto_region 1 with fail
  obtain ⟨T0, hT⟩ : ∃ T, T = (w.alloc (.cells #[.bool s, .slice A n c] 24)) := ⟨_, rfl⟩
  have hbt : Below w.heap.size w T0 := by rw [hT]; exact (by repeat (first | with_reducible exact Below.refl _ _ | with_reducible assumption | with_reducible refine Below.drew ?_ | with_reducible refine Below.drewN ?_ _ | with_reducible refine Below.alloc2 ?_ _ | with_reducible refine Below.alloc ?_ (by first | omega | (simp <;> omega)) _ | with_reducible refine Below.setCell ?_ (by first | omega | (simp <;> omega)) _ | with_reducible refine Below.step2 (by with_reducible assumption) ?_ | with_reducible refine Below.step (by with_reducible assumption) ?_ (by first | omega | (simp <;> omega))))
  have h1t : Bk T0 w.heap.size 24 #[.bool s, .slice A n c] := by rw [hT]; exact (by repeat (first | with_reducible assumption | with_reducible exact Bk.at_ (by first | (simp; done) | omega) | with_reducible refine Bk.alloc ?_ _ | with_reducible refine Bk.drew ?_ | with_reducible refine Bk.drewN ?_ _ | with_reducible refine Bk.step (by with_reducible assumption) ?_ (by first | omega | (simp <;> omega))))
  have hit : IntH T0 s A n c (v : Int) K true := h.later (below_to b1 hbt b1.size)
  rw [← hT]
  clear hT h b1
  go_wp2
  go_loopg [3] (v + 1) (fun g v3 wr => ∃ (m t : Nat) (T : List Nat) (s' : Bool) (A' : Option Addr) (n' c' : Nat), v3 = .string (bs T) ∧ m ≤ v ∧ ((T = [] → t = 1) ∧ (T ≠ [] → t = 0)) ∧ m + t ≤ g ∧ DigS v m T ∧ Bk wr w.heap.size 24 #[.bool s', .slice A' n' c'] ∧ IntH wr s' A' n' c' (m : Int) K true ∧ Below w.heap.size w wr)
  case atStart => exact ⟨v, 1, [], s, A, n, c, rfl, Nat.le_refl _, ⟨fun _ => rfl, fun h => absurd rfl h⟩, Nat.le_refl _, .inl ⟨rfl, rfl⟩, h1t, hit, hbt⟩
  case round =>
    clear hbt h1t hit
    obtain ⟨m, t, T, s', A', n', c', rfl, hmv, ⟨ht1, ht2⟩, hg, hD, h1, hi, hb⟩ := hrel
    obtain ⟨wo, rfl⟩ : ∃ x, x = wr := ⟨_, rfl⟩
    have HBo := Lib.hid hb
    have H1o := Lib.hid h1
    have HIo := Lib.hid hi
    have HD := Lib.hid hD
    clear hb h1 hi hD
    by_cases hend : T ≠ [] ∧ m = 0
    · obtain ⟨hT, rfl⟩ := hend
      have HE := Lib.hid (HD.out.end_ hT)
      have e0 : (bs T).toList.isEmpty = false := by rw [emp_bs, decide_eq_false hT]
      have HE2 : Hid (bs (dec v) = bs T) := Lib.hid (by rw [HE.out])
      generalize bs T = S at *
      clear HE HD hT hg hmv ht1 ht2
      obtain ⟨x0, x1⟩ := H1o.out.duo
      go_wp2_with (go_at_call 68; go_loud (with_reducible refine (rsignH HIo.out (Below.refl _ _) (C := 0) rfl).mono ?_; rintro e wa ⟨hba, rfl⟩; have HBa := Lib.hid (below_to HBo.out hba HBo.out.size); have H1a := Lib.hid (H1o.out.below hba H1o.out.lt); clear hba))
      go_ret
      exact ⟨HBa.out, by rw [HE2.out]; rfl⟩
    · have hnx : T = [] ∨ 0 < m := by
        rcases Classical.em (T = []) with h | h
        · exact .inl h
        · exact .inr (Nat.pos_of_ne_zero fun e => hend ⟨h, e⟩)
      have HN := Lib.hid (HD.out.next hnx)
      have hcT : Codes T := by
        rcases HD.out with ⟨rfl, -⟩ | ⟨-, h⟩
        · intro c hc; cases hc
        · intro c hc
          exact dec_codes v c (by rw [h]; exact List.mem_append_right _ hc)
      have hg2 : m / 10 < m + t := by
        rcases hnx with h | h
        · have := ht1 h; omega
        · omega
      have hmK : m < W K := Nat.lt_of_le_of_lt hmv hvK
      obtain ⟨d, hd⟩ : ∃ d, m % 10 = d := ⟨_, rfl⟩
      obtain ⟨q, hq⟩ : ∃ q, m / 10 = q := ⟨_, rfl⟩
      have hd10 : d < 10 := by omega
      have hqm : q ≤ m := by omega
      rw [hd, hq] at HN
      rw [hq] at hg2
      have hqi : (m : Int) / 10 = (q : Int) := by omega
      have hdi : (m : Int) % 10 = (d : Int) := by omega
      have E0 : T = [] ∨ 0 < m := hnx
      have HEX : Hid ((⟨#[48, 49, 50, 51, 52, 53, 54, 55, 56, 57]⟩ : ByteArray).extract d (d + 1) ++ bs T = bs ((d + 48) :: T)) := Lib.hid (by rw [dig_at d hd10, bs_append]; rfl)
      obtain ⟨x0, x1⟩ := H1o.out.duo
      obtain ⟨S, hS⟩ : ∃ S, bs T = S := ⟨_, rfl⟩
      obtain ⟨S2, hS2⟩ : ∃ S2, bs ((d + 48) :: T) = S2 := ⟨_, rfl⟩
      have HS2 := Lib.hid hS2
      have hds := fun W => dig_slice hd10 W
      obtain ⟨D1, hD1⟩ : ∃ D1, (⟨#[48, 49, 50, 51, 52, 53, 54, 55, 56, 57]⟩ : ByteArray).extract d (d + 1) = D1 := ⟨_, rfl⟩
      rw [hD1] at hds HEX
      have hD1s : D1.size = 1 := by rw [← hD1, dig_at d hd10, bs_size]; rfl
      have hSs : S.size ≤ 1000 := by
        rw [← hS, bs_size]
        have hv : v < 10 ^ 1000 := Nat.lt_of_lt_of_le hvK (Nat.le_trans (W_mono hk) (by decide +kernel))
        have := dec_len (k := 1000) (by omega) hv
        rcases HD.out with ⟨rfl, -⟩ | ⟨-, h⟩
        · simp
        · rw [h, List.length_append] at this
          omega
      clear hD1
      rw [hS, hS2] at HEX
      have hex := HEX.out
      have hE : T = [] → S.toList.isEmpty = true := fun h => by rw [← hS, emp_bs, decide_eq_true h]
      have hE2 : T ≠ [] → S.toList.isEmpty = false := fun h => by rw [← hS, emp_bs, decide_eq_false h]
      rw [hS]
      clear hS hS2 hcT
      by_cases hT : T = []
      · have e0 := hE hT
        clear hT hend hnx E0 HD ht1 ht2 hE hE2
        go_upto_region 3 with fail
        have HBy := Lib.hid HBo.out.drew
        have H1y : Hid (Bk wo.drew w.heap.size 24 #[.bool s', .slice A' n' c']) := H1o
        have HIy := Lib.hid (HIo.out.later (Below.refl _ _).drew)
        have HC : Hid ((fun w' : World => w'.cell? ⟨w.heap.size, 0, none⟩ = some (.bool s') ∧ w'.cell? ⟨w.heap.size, 1, none⟩ = some (.slice A' n' c')) wo.drew) := Lib.hid H1y.out.duo
        have HSA : Hid (∀ (w' : World) o, (fun w' : World => w'.cell? ⟨w.heap.size, 0, none⟩ = some (.bool s') ∧ w'.cell? ⟨w.heap.size, 1, none⟩ = some (.slice A' n' c')) w' → (fun w' : World => w'.cell? ⟨w.heap.size, 0, none⟩ = some (.bool s') ∧ w'.cell? ⟨w.heap.size, 1, none⟩ = some (.slice A' n' c')) (w'.alloc o)) := Lib.hid (by
          rintro w' o ⟨z0, z1⟩
          exact ⟨alloc_keep _ z0, alloc_keep _ z1⟩)
        refine region_goes (n := 12) (fun w' => w'.cell? ⟨w.heap.size, 0, none⟩ = some (.bool s') ∧ w'.cell? ⟨w.heap.size, 1, none⟩ = some (.slice A' n' c')) [] (by kernel_rfl) rfl ?_
        refine goes_takeE (i := 0) (E := []) (v := .agg #[.bool s', .slice A' n' c']) rfl (by kernel_rfl) rfl (fun _ _ _ h => h) (by intro w' hw'; obtain ⟨z0, z1⟩ := hw'; go_simp) HC.out ?_
        refine flo_begin2 (vA := u4) (vB := u5) (iA := 7) (iB := 8) (D0 := w.heap.size + 1) (t := 24) (z := #[.bool false, .slice none 0 0]) (some 4) (some 5) (by kernel_rfl) HC.out ?_
        refine flo_call (i := 1) rfl rfl rfl rfl rfl (by intro a w; go_simp) (by intro a w; go_simp) (by intro _ _ _; kernel_rfl) (by intro _ _ _; kernel_rfl) HSA.out (by have := H1y.out.lt; omega) (by decide) (by decide) (by decide) (by kernel_rfl) (by kernel_rfl) (by kernel_rfl) (by kernel_rfl) ?_
        intro vA vB ub hub hsb
        go_wp2_with (go_at_call 13; go_loud (with_reducible refine (rofH 10 _ (by omega) (by omega)).mono ?_; rintro e wb ⟨hbb, sb, Ab, nb, cb, rfl, ib⟩))
        have hstb := below_to hub hbb hub.size
        have HBb := Lib.hid (below_to HBy.out hstb HBy.out.size); have H1b := Lib.hid (H1y.out.below hstb H1y.out.lt)
        have HIb := Lib.hid ib; have HIk := Lib.hid (HIy.out.later hstb)
        refine behind_ok ⟨H1b.out.duo, hbb, by kernel_rfl, ?_⟩
        clear hbb ib hub hsb hstb
        refine flo_call (i := 2) rfl rfl rfl rfl rfl (by intro a w; go_simp) (by intro a w; go_simp) (by intro _ _ _; kernel_rfl) (by intro _ _ _; kernel_rfl) HSA.out (by have := H1b.out.lt; omega) (by decide) (by decide) (by decide) (by kernel_rfl) (by kernel_rfl) (by kernel_rfl) (by kernel_rfl) ?_
        intro vA vB uf huf hsf
        go_wp2_with (go_at_call 21; go_loud (with_reducible refine (rdivH HIk.out HIb.out huf huf (by omega) (by omega)).mono ?_; rintro e wf ⟨hbf, hcase⟩; obtain ⟨-, sq, Aq, nq, cq, sr, Ar, nr, cr, rfl, iq, ir⟩ := hcase.resolve_left (fun h => absurd h.1 (by decide))))
        have hstf := below_to huf hbf huf.size
        have HBf := Lib.hid (below_to HBb.out hstf HBb.out.size); have H1f := Lib.hid (H1b.out.below hstf H1b.out.lt)
        rw [hqi] at iq; rw [hdi] at ir; have HIq := Lib.hid iq; have HIr := Lib.hid ir
        refine behind_ok ⟨H1f.out.duo, hbf, by kernel_rfl, ?_⟩
        clear hbf iq ir huf hsf hstf hcase HIb HIk HBb H1b
        refine flo_take (i := 3) (v := .tuple #[.agg #[.bool sq, .slice Aq nq cq], .agg #[.bool sr, .slice Ar nr cr], .int .i64 0]) [] rfl rfl (by decide) (by decide) (by intro dA dB; cases dA <;> cases dB <;> kernel_rfl) (fun _ _ _ h => h) (by intro vA vB w' hw'; go_simp) ?_
        refine flo_take (i := 4) (v := .agg #[.bool sq, .slice Aq nq cq]) [] rfl rfl (by decide) (by decide) (by intro dA dB; cases dA <;> cases dB <;> kernel_rfl) (fun _ _ _ h => h) (by intro vA vB w' hw'; go_simp) ?_
        refine flo_take (i := 5) (v := .agg #[.bool sr, .slice Ar nr cr]) [] rfl rfl (by decide) (by decide) (by intro dA dB; cases dA <;> cases dB <;> kernel_rfl) (fun _ _ _ h => h) (by intro vA vB w' hw'; go_simp) ?_
        refine flo_take (i := 6) (v := .int .i64 0) [] rfl rfl (by decide) (by decide) (by intro dA dB; cases dA <;> cases dB <;> kernel_rfl) (fun _ _ _ h => h) (by intro vA vB w' hw'; go_simp) ?_
        refine flo_end rfl rfl rfl rfl (by intro a w; go_simp) (by intro a w; go_simp) (by intro _ _ _; kernel_rfl) (by intro _ _ _; kernel_rfl) HSA.out (by have := H1f.out.lt; omega) (by decide) (by kernel_rfl) (by kernel_rfl) (by kernel_rfl) ?_
        intro gA gB u hu hgA hgB hne kA kB hsu
        have HBu := Lib.hid (below_to HBf.out hu HBf.out.size); have H1u := Lib.hid (H1f.out.below hu H1f.out.lt)
        have iqu := HIq.out.later hu
        have iru := HIr.out.later hu
        obtain ⟨r0, r1⟩ := kA.duo
        have f0 := kA.frozen 0
        have f1 := kA.frozen 1
        clear hu hsu HC HSA HBy H1y HIy HBf H1f HIq HIr
        refine goes_call (i := 9) rfl (by kernel_rfl) ?_
        go_wp2_with fail
        obtain ⟨V, hV⟩ : ∃ V, V = ((u.setCell ⟨gA, 0, none⟩ (.bool sq)).setCell ⟨gA, 1, none⟩ (.slice Aq nq cq)) := ⟨_, rfl⟩
        have HBV : Hid (Below w.heap.size w V) := Lib.hid (by rw [hV]; exact (HBu.out.setCell (show w.heap.size ≤ gA by omega) _).setCell (show w.heap.size ≤ gA by omega) _)
        have HAV : Hid (Bk V gA 24 #[.bool sq, .slice Aq nq cq]) := Lib.hid (by rw [hV]; exact kA.duoset _ _)
        have hBV : Bk V gB 24 #[.bool false, .slice none 0 0] := by rw [hV]; exact kB.two hne.symm _ _
        have H1V : Hid (Bk V w.heap.size 24 #[.bool s', .slice A' n' c']) := Lib.hid (by rw [hV]; exact H1u.out.two (by omega) _ _)
        have HQV : Hid (IntH V sq Aq nq cq (q : Int) K true) := Lib.hid (by rw [hV]; exact (iqu.past kA _ _).tight (by rw [Int.natAbs_natCast]; omega))
        have HRV : Hid (IntH V sr Ar nr cr (d : Int) 2 true) := Lib.hid (by rw [hV]; exact iru.past kA _ _)
        rw [← hV]
        clear hV kA kB r0 r1 f0 f1 iqu iru HBu H1u
        refine behind_ok ⟨H1V.out.duo, ?_⟩
        obtain ⟨r0, r1⟩ := hBV.duo
        have f0 := hBV.frozen 0
        have f1 := hBV.frozen 1
        refine goes_call (i := 10) rfl (by kernel_rfl) ?_
        go_wp2_with fail
        obtain ⟨U, hU⟩ : ∃ U, U = ((V.setCell ⟨gB, 0, none⟩ (.bool sr)).setCell ⟨gB, 1, none⟩ (.slice Ar nr cr)) := ⟨_, rfl⟩
        have HBU : Hid (Below w.heap.size w U) := Lib.hid (by rw [hU]; exact (HBV.out.setCell (show w.heap.size ≤ gB by omega) _).setCell (show w.heap.size ≤ gB by omega) _)
        have HAU : Hid (Bk U gA 24 #[.bool sq, .slice Aq nq cq]) := Lib.hid (by rw [hU]; exact HAV.out.two hne _ _)
        have HGU : Hid (Bk U gB 24 #[.bool sr, .slice Ar nr cr]) := Lib.hid (by rw [hU]; exact hBV.duoset _ _)
        have H1U : Hid (Bk U w.heap.size 24 #[.bool s', .slice A' n' c']) := Lib.hid (by rw [hU]; exact H1V.out.two (by omega) _ _)
        have HQU : Hid (IntH U sq Aq nq cq (q : Int) K true) := Lib.hid (by rw [hU]; exact HQV.out.past hBV _ _)
        have HRU : Hid (IntH U sr Ar nr cr (d : Int) 2 true) := Lib.hid (by rw [hU]; exact HRV.out.past hBV _ _)
        rw [← hU]
        clear hU hBV r0 r1 f0 f1 HBV HAV H1V HQV HRV
        refine behind_ok ⟨H1U.out.duo, ?_⟩
        refine goes_call (i := 11) rfl (by kernel_rfl) ?_
        go_wp2_with fail
        refine behind_ok ⟨H1U.out.duo, goes_done (by kernel_rfl) ?_⟩
        obtain ⟨r0, r1⟩ := HGU.out.duo
        have hsm : smallV (d : Int) = .tuple #[.int .i64 (d : Int), .bool true] := smallV_in (by omega) (by omega)
        have HSM : Hid (∀ W, Below U.heap.size U W → Calls Tryz.prog 10 #[.agg #[.bool sr, .slice Ar nr cr]] W fun e w'' => Below W.heap.size W w'' ∧ e = .returned (.tuple #[.int .i64 (d : Int), .bool true])) := Lib.hid fun W hW => by
          have := rsmallH HRU.out hW (by omega)
          rwa [hsm] at this
        clear hsm
        go_upto_region 5 with (go_at_call 10; go_loud (refine (HSM.out _ (Below.refl _ _)).mono ?_; rintro e wv ⟨hbv, rfl⟩; have HBv := Lib.hid (below_to HBU.out hbv HBU.out.size); have H1v := Lib.hid (H1U.out.below hbv H1U.out.lt); have HAv := Lib.hid (HAU.out.below hbv HAU.out.lt); have HQv := Lib.hid (HQU.out.later hbv); clear hbv r0 r1))
        clear HSM HBU HAU HGU H1U HQU HRU
        obtain ⟨r0, r1⟩ := HAv.out.duo
        obtain ⟨t0, t1⟩ := H1v.out.duo
        have f0 := H1v.out.frozen 0
        have f1 := H1v.out.frozen 1
        have oh1 := H1v.out.lt
        go_wp2
        go_roundg q
        case measure => omega
        case rel => exact ⟨q, 0, (d + 48) :: T, sq, Aq, nq, cq, by rw [HS2.out], by omega, ⟨(fun h => by cases h), fun _ => rfl⟩, by omega, HN.out, H1v.out.duoset _ _, HQv.out.past H1v.out _ _, (HBv.out.setCell (Nat.le_refl _) _).setCell (Nat.le_refl _) _⟩
      · have e0 := hE2 hT
        have hm0 : 0 < m := by
          rcases hnx with h | h
          · exact absurd h hT
          · exact h
        clear hT hend hnx E0 HD ht1 ht2 hE hE2
        go_upto_region 3 with (go_at_call 68; go_loud (with_reducible refine (rsignH HIo.out (Below.refl _ _) (C := 1) (cmpI_gt (by omega))).mono ?_; rintro e wa ⟨hba, rfl⟩; have HBa := Lib.hid (below_to HBo.out hba HBo.out.size); have H1a := Lib.hid (H1o.out.below hba H1o.out.lt); have HIa := Lib.hid (HIo.out.later hba); clear hba))
        have HBy := Lib.hid HBa.out.drew
        have H1y : Hid (Bk wa.drew w.heap.size 24 #[.bool s', .slice A' n' c']) := H1a
        have HIy := Lib.hid (HIa.out.later (Below.refl _ _).drew)
        have HC : Hid ((fun w' : World => w'.cell? ⟨w.heap.size, 0, none⟩ = some (.bool s') ∧ w'.cell? ⟨w.heap.size, 1, none⟩ = some (.slice A' n' c')) wa.drew) := Lib.hid H1y.out.duo
        have HSA : Hid (∀ (w' : World) o, (fun w' : World => w'.cell? ⟨w.heap.size, 0, none⟩ = some (.bool s') ∧ w'.cell? ⟨w.heap.size, 1, none⟩ = some (.slice A' n' c')) w' → (fun w' : World => w'.cell? ⟨w.heap.size, 0, none⟩ = some (.bool s') ∧ w'.cell? ⟨w.heap.size, 1, none⟩ = some (.slice A' n' c')) (w'.alloc o)) := Lib.hid (by
          rintro w' o ⟨z0, z1⟩
          exact ⟨alloc_keep _ z0, alloc_keep _ z1⟩)
        refine region_goes (n := 12) (fun w' => w'.cell? ⟨w.heap.size, 0, none⟩ = some (.bool s') ∧ w'.cell? ⟨w.heap.size, 1, none⟩ = some (.slice A' n' c')) [] (by kernel_rfl) rfl ?_
        refine goes_takeE (i := 0) (E := []) (v := .agg #[.bool s', .slice A' n' c']) rfl (by kernel_rfl) rfl (fun _ _ _ h => h) (by intro w' hw'; obtain ⟨z0, z1⟩ := hw'; go_simp) HC.out ?_
        refine flo_begin2 (vA := u4) (vB := u5) (iA := 7) (iB := 8) (D0 := w.heap.size + 1) (t := 24) (z := #[.bool false, .slice none 0 0]) (some 4) (some 5) (by kernel_rfl) HC.out ?_
        refine flo_call (i := 1) rfl rfl rfl rfl rfl (by intro a w; go_simp) (by intro a w; go_simp) (by intro _ _ _; kernel_rfl) (by intro _ _ _; kernel_rfl) HSA.out (by have := H1y.out.lt; omega) (by decide) (by decide) (by decide) (by kernel_rfl) (by kernel_rfl) (by kernel_rfl) (by kernel_rfl) ?_
        intro vA vB ub hub hsb
        go_wp2_with (go_at_call 13; go_loud (with_reducible refine (rofH 10 _ (by omega) (by omega)).mono ?_; rintro e wb ⟨hbb, sb, Ab, nb, cb, rfl, ib⟩))
        have hstb := below_to hub hbb hub.size
        have HBb := Lib.hid (below_to HBy.out hstb HBy.out.size); have H1b := Lib.hid (H1y.out.below hstb H1y.out.lt)
        have HIb := Lib.hid ib; have HIk := Lib.hid (HIy.out.later hstb)
        refine behind_ok ⟨H1b.out.duo, hbb, by kernel_rfl, ?_⟩
        clear hbb ib hub hsb hstb
        refine flo_call (i := 2) rfl rfl rfl rfl rfl (by intro a w; go_simp) (by intro a w; go_simp) (by intro _ _ _; kernel_rfl) (by intro _ _ _; kernel_rfl) HSA.out (by have := H1b.out.lt; omega) (by decide) (by decide) (by decide) (by kernel_rfl) (by kernel_rfl) (by kernel_rfl) (by kernel_rfl) ?_
        intro vA vB uf huf hsf
        go_wp2_with (go_at_call 21; go_loud (with_reducible refine (rdivH HIk.out HIb.out huf huf (by omega) (by omega)).mono ?_; rintro e wf ⟨hbf, hcase⟩; obtain ⟨-, sq, Aq, nq, cq, sr, Ar, nr, cr, rfl, iq, ir⟩ := hcase.resolve_left (fun h => absurd h.1 (by decide))))
        have hstf := below_to huf hbf huf.size
        have HBf := Lib.hid (below_to HBb.out hstf HBb.out.size); have H1f := Lib.hid (H1b.out.below hstf H1b.out.lt)
        rw [hqi] at iq; rw [hdi] at ir; have HIq := Lib.hid iq; have HIr := Lib.hid ir
        refine behind_ok ⟨H1f.out.duo, hbf, by kernel_rfl, ?_⟩
        clear hbf iq ir huf hsf hstf hcase HIb HIk HBb H1b
        refine flo_take (i := 3) (v := .tuple #[.agg #[.bool sq, .slice Aq nq cq], .agg #[.bool sr, .slice Ar nr cr], .int .i64 0]) [] rfl rfl (by decide) (by decide) (by intro dA dB; cases dA <;> cases dB <;> kernel_rfl) (fun _ _ _ h => h) (by intro vA vB w' hw'; go_simp) ?_
        refine flo_take (i := 4) (v := .agg #[.bool sq, .slice Aq nq cq]) [] rfl rfl (by decide) (by decide) (by intro dA dB; cases dA <;> cases dB <;> kernel_rfl) (fun _ _ _ h => h) (by intro vA vB w' hw'; go_simp) ?_
        refine flo_take (i := 5) (v := .agg #[.bool sr, .slice Ar nr cr]) [] rfl rfl (by decide) (by decide) (by intro dA dB; cases dA <;> cases dB <;> kernel_rfl) (fun _ _ _ h => h) (by intro vA vB w' hw'; go_simp) ?_
        refine flo_take (i := 6) (v := .int .i64 0) [] rfl rfl (by decide) (by decide) (by intro dA dB; cases dA <;> cases dB <;> kernel_rfl) (fun _ _ _ h => h) (by intro vA vB w' hw'; go_simp) ?_
        refine flo_end rfl rfl rfl rfl (by intro a w; go_simp) (by intro a w; go_simp) (by intro _ _ _; kernel_rfl) (by intro _ _ _; kernel_rfl) HSA.out (by have := H1f.out.lt; omega) (by decide) (by kernel_rfl) (by kernel_rfl) (by kernel_rfl) ?_
        intro gA gB u hu hgA hgB hne kA kB hsu
        have HBu := Lib.hid (below_to HBf.out hu HBf.out.size); have H1u := Lib.hid (H1f.out.below hu H1f.out.lt)
        have iqu := HIq.out.later hu
        have iru := HIr.out.later hu
        obtain ⟨r0, r1⟩ := kA.duo
        have f0 := kA.frozen 0
        have f1 := kA.frozen 1
        clear hu hsu HC HSA HBy H1y HIy HBf H1f HIq HIr
        refine goes_call (i := 9) rfl (by kernel_rfl) ?_
        go_wp2_with fail
        obtain ⟨V, hV⟩ : ∃ V, V = ((u.setCell ⟨gA, 0, none⟩ (.bool sq)).setCell ⟨gA, 1, none⟩ (.slice Aq nq cq)) := ⟨_, rfl⟩
        have HBV : Hid (Below w.heap.size w V) := Lib.hid (by rw [hV]; exact (HBu.out.setCell (show w.heap.size ≤ gA by omega) _).setCell (show w.heap.size ≤ gA by omega) _)
        have HAV : Hid (Bk V gA 24 #[.bool sq, .slice Aq nq cq]) := Lib.hid (by rw [hV]; exact kA.duoset _ _)
        have hBV : Bk V gB 24 #[.bool false, .slice none 0 0] := by rw [hV]; exact kB.two hne.symm _ _
        have H1V : Hid (Bk V w.heap.size 24 #[.bool s', .slice A' n' c']) := Lib.hid (by rw [hV]; exact H1u.out.two (by omega) _ _)
        have HQV : Hid (IntH V sq Aq nq cq (q : Int) K true) := Lib.hid (by rw [hV]; exact (iqu.past kA _ _).tight (by rw [Int.natAbs_natCast]; omega))
        have HRV : Hid (IntH V sr Ar nr cr (d : Int) 2 true) := Lib.hid (by rw [hV]; exact iru.past kA _ _)
        rw [← hV]
        clear hV kA kB r0 r1 f0 f1 iqu iru HBu H1u
        refine behind_ok ⟨H1V.out.duo, ?_⟩
        obtain ⟨r0, r1⟩ := hBV.duo
        have f0 := hBV.frozen 0
        have f1 := hBV.frozen 1
        refine goes_call (i := 10) rfl (by kernel_rfl) ?_
        go_wp2_with fail
        obtain ⟨U, hU⟩ : ∃ U, U = ((V.setCell ⟨gB, 0, none⟩ (.bool sr)).setCell ⟨gB, 1, none⟩ (.slice Ar nr cr)) := ⟨_, rfl⟩
        have HBU : Hid (Below w.heap.size w U) := Lib.hid (by rw [hU]; exact (HBV.out.setCell (show w.heap.size ≤ gB by omega) _).setCell (show w.heap.size ≤ gB by omega) _)
        have HAU : Hid (Bk U gA 24 #[.bool sq, .slice Aq nq cq]) := Lib.hid (by rw [hU]; exact HAV.out.two hne _ _)
        have HGU : Hid (Bk U gB 24 #[.bool sr, .slice Ar nr cr]) := Lib.hid (by rw [hU]; exact hBV.duoset _ _)
        have H1U : Hid (Bk U w.heap.size 24 #[.bool s', .slice A' n' c']) := Lib.hid (by rw [hU]; exact H1V.out.two (by omega) _ _)
        have HQU : Hid (IntH U sq Aq nq cq (q : Int) K true) := Lib.hid (by rw [hU]; exact HQV.out.past hBV _ _)
        have HRU : Hid (IntH U sr Ar nr cr (d : Int) 2 true) := Lib.hid (by rw [hU]; exact HRV.out.past hBV _ _)
        rw [← hU]
        clear hU hBV r0 r1 f0 f1 HBV HAV H1V HQV HRV
        refine behind_ok ⟨H1U.out.duo, ?_⟩
        refine goes_call (i := 11) rfl (by kernel_rfl) ?_
        go_wp2_with fail
        refine behind_ok ⟨H1U.out.duo, goes_done (by kernel_rfl) ?_⟩
        obtain ⟨r0, r1⟩ := HGU.out.duo
        have hsm : smallV (d : Int) = .tuple #[.int .i64 (d : Int), .bool true] := smallV_in (by omega) (by omega)
        have HSM : Hid (∀ W, Below U.heap.size U W → Calls Tryz.prog 10 #[.agg #[.bool sr, .slice Ar nr cr]] W fun e w'' => Below W.heap.size W w'' ∧ e = .returned (.tuple #[.int .i64 (d : Int), .bool true])) := Lib.hid fun W hW => by
          have := rsmallH HRU.out hW (by omega)
          rwa [hsm] at this
        clear hsm
        go_upto_region 5 with (go_at_call 10; go_loud (refine (HSM.out _ (Below.refl _ _)).mono ?_; rintro e wv ⟨hbv, rfl⟩; have HBv := Lib.hid (below_to HBU.out hbv HBU.out.size); have H1v := Lib.hid (H1U.out.below hbv H1U.out.lt); have HAv := Lib.hid (HAU.out.below hbv HAU.out.lt); have HQv := Lib.hid (HQU.out.later hbv); clear hbv r0 r1))
        clear HSM HBU HAU HGU H1U HQU HRU
        obtain ⟨r0, r1⟩ := HAv.out.duo
        obtain ⟨t0, t1⟩ := H1v.out.duo
        have f0 := H1v.out.frozen 0
        have f1 := H1v.out.frozen 1
        have oh1 := H1v.out.lt
        go_wp2
        go_roundg q
        case measure => omega
        case rel => exact ⟨q, 0, (d + 48) :: T, sq, Aq, nq, cq, by rw [HS2.out], by omega, ⟨(fun h => by cases h), fun _ => rfl⟩, by omega, HN.out, H1v.out.duoset _ _, HQv.out.past H1v.out _ _, (HBv.out.setCell (Nat.le_refl _) _).setCell (Nat.le_refl _) _⟩

end Go.Proofs.YtfnibkodccfocaaGreat

/- Texts, the reference: Format. -/
namespace Go.Proofs.YtfnibkodccfocaaGreat
open Go Go.RowKit

/-- The sign, and what is written behind it. -/
def sgT (x : Rat) : List Nat := if x.num < 0 then [45] else []
theorem fmt_one {x : Rat} (h : x.den = 1) : fmtR x = sgT x ++ dec x.num.natAbs := by unfold fmtR sgT; rw [if_pos h, List.append_nil]
theorem fmt_more {x : Rat} (h : ¬ x.den = 1) : fmtR x = sgT x ++ dec x.num.natAbs ++ [47] ++ dec x.den := by unfold fmtR sgT; rw [if_neg h]; simp
theorem dec_short {n K : Nat} (hK : K ≤ 90) (h : n < W K) : (dec n).length ≤ 1000 := dec_len (by omega) (Nat.lt_of_lt_of_le h (Nat.le_trans (W_mono hK) (by decide +kernel)))
theorem sign_not' {x : Rat} {C : Int} (h : ¬ x.num < 0) (hC : cmpI x.num 0 = C) : ¬ C < 0 := by
  rcases Int.lt_trichotomy x.num 0 with g | g | g
  · exact absurd g h
  · rw [cmpI_eq g] at hC; omega
  · rw [cmpI_gt g] at hC; omega
/- The denominator: of the state %1, with the text S3 so far. -/
set_option maxRecDepth 100000 in
set_option maxHeartbeats 1600000 in
theorem refFormat_any {s1 s2 : Bool} {A1 A2 : Option Addr} {n1 c1 n2 c2 K : Nat} {nf : Bool} {x : Rat} {w1 w : World} (h : RatH w1 s1 A1 n1 c1 s2 A2 n2 c2 x K nf) (b1 : Below w1.heap.size w1 w) (hk : K ≤ 38) (h0 : 0 < K) :
    Calls Tryz.prog 47 #[.agg #[.bool s1, .slice A1 n1 c1, .bool s2, .slice A2 n2 c2]] w fun e w' => Below w.heap.size w w' ∧ e = .returned (.string (bs (fmtR x))) := by
  have hbd := h.bds h0
  obtain ⟨hnum, hden⟩ := hbd
  go_enter Tryz.func47, Tryz.ntmps47
  go_upto_region 1 with fail
  obtain ⟨W0, hW⟩ : ∃ W, W = (w.alloc (.cells #[.bool s1, .slice A1 n1 c1, .bool s2, .slice A2 n2 c2] 41)) := ⟨_, rfl⟩
  have HBW : Hid (Below w.heap.size w W0) := Lib.hid (by rw [hW]; exact (by repeat (first | with_reducible exact Below.refl _ _ | with_reducible assumption | with_reducible refine Below.drew ?_ | with_reducible refine Below.drewN ?_ _ | with_reducible refine Below.alloc2 ?_ _ | with_reducible refine Below.alloc ?_ (by first | omega | (simp <;> omega)) _ | with_reducible refine Below.setCell ?_ (by first | omega | (simp <;> omega)) _ | with_reducible refine Below.step2 (by with_reducible assumption) ?_ | with_reducible refine Below.step (by with_reducible assumption) ?_ (by first | omega | (simp <;> omega)))))
  have HKX : Hid (Bk W0 w.heap.size 41 #[.bool s1, .slice A1 n1 c1, .bool s2, .slice A2 n2 c2]) := Lib.hid (by rw [hW]; exact (by repeat (first | with_reducible assumption | with_reducible exact Bk.at_ (by first | (simp; done) | omega) | with_reducible refine Bk.alloc ?_ _ | with_reducible refine Bk.drew ?_ | with_reducible refine Bk.drewN ?_ _ | with_reducible refine Bk.step (by with_reducible assumption) ?_ (by first | omega | (simp <;> omega)))))
  rw [← hW]
  clear hW
  obtain ⟨a0, a1, a2, a3⟩ := HKX.out.four4
  go_upto_region 2 with (go_at_call 31; go_loud (with_reducible refine (rnormT h (below_to b1 HBW.out b1.size) hk h0).mono ?_; rintro e wn ⟨hbn, t1, B1, m1, d1, t2, B2, m2, d2, rfl, hr⟩; have HBN := Lib.hid (below_to HBW.out hbn HBW.out.size); have hkx := HKX.out.below hbn HKX.out.lt; have f0 := hkx.frozen 0; have f1 := hkx.frozen 1; have f2 := hkx.frozen 2; have f3 := hkx.frozen 3; obtain ⟨r0, r1, r2, r3⟩ := hkx.four4; have HKN := Lib.hid hkx; have HRN := Lib.hid hr; clear hbn hkx hr))
  obtain ⟨wa, hV, hVb, hVk, hVr, hVo, -⟩ := stored_over HBN.out (Nat.le_refl _) HKN.out HRN.out
  rw [← hV]
  clear hV hVo a0 a1 a2 a3 r0 r1 r2 r3 f0 f1 f2 f3 h b1 HBW HKX HBN HKN HRN
  obtain ⟨hP, hQ⟩ := hVr.parts2
  have HBa := Lib.hid hVb
  have HXa := Lib.hid hVk
  have HPa := Lib.hid hP
  have HQa := Lib.hid hQ
  obtain ⟨u0, u1, u2, u3⟩ := hVk.four4
  clear hVb hVk hVr hP hQ
  obtain ⟨S1, hS1⟩ : ∃ S1, bs (dec x.num.natAbs) = S1 := ⟨_, rfl⟩
  have HS1 := Lib.hid hS1
  have hz1 : S1.size ≤ 1000 := by rw [← hS1, bs_size]; exact dec_short (by omega) hnum
  clear hS1
  go_upto_region 3 with (first
    | (go_at_call 83; go_loud (with_reducible refine (digits_any HIb.out (Below.refl _ _) h0 (by omega)).mono ?_; rw [HS1.out]; rintro e wc ⟨hbc, rfl⟩; have HBc := Lib.hid (below_to HBb.out hbc HBb.out.size); have HXc := Lib.hid (HXb.out.below hbc HXb.out.lt); have HPc := Lib.hid (HPb.out.later hbc); have HQc := Lib.hid (HQb.out.later hbc); obtain ⟨u0, u1, u2, u3⟩ := HXc.out.four4; clear hbc))
    | (go_at_call 69; with_reducible refine (rsizeH HPa.out (Below.refl _ _) (by omega)).mono ?_; rintro e wb ⟨hbb, sb, Ab, nb, cb, rfl, ib⟩; have HBb := Lib.hid (below_to HBa.out hbb HBa.out.size); have HXb := Lib.hid (HXa.out.below hbb HXa.out.lt); have HPb := Lib.hid (HPa.out.later hbb); have HQb := Lib.hid (HQa.out.later hbb); have HIb := Lib.hid ib; clear hbb ib u0 u1 u2 u3))
  clear HBa HXa HPa HQa HBb HXb HPb HQb HIb
  obtain ⟨C1, hC1⟩ : ∃ C, cmpI x.num 0 = C := ⟨_, rfl⟩
  by_cases hx : x.num < 0
  · have e1 : decide (C1 < 0) = true := by rw [← hC1, cmpI_lt hx]; rfl
    obtain ⟨S3, hS3'⟩ : ∃ S3, (⟨#[45]⟩ : ByteArray) ++ S1 = S3 := ⟨_, rfl⟩
    have hS3 : bs (sgT x ++ dec x.num.natAbs) = S3 := by
      rw [← bs_append, HS1.out, ← hS3']
      unfold sgT
      rw [if_pos hx]
      rfl
    have hz45 : (⟨#[45]⟩ : ByteArray).size = 1 := rfl
    have hz3 : S3.size ≤ 1001 := by rw [← hS3', ByteArray.size_append]; omega
    clear hx
    go_upto_region 5 with (go_at_call 68; go_loud (with_reducible refine (rsignH HPc.out (Below.refl _ _) hC1).mono ?_; rintro e wd ⟨hbd, rfl⟩; have HBd := Lib.hid (below_to HBc.out hbd HBc.out.size); have HXd := Lib.hid (HXc.out.below hbd HXc.out.lt); have HPd := Lib.hid (HPc.out.later hbd); have HQd := Lib.hid (HQc.out.later hbd); clear hbd))
    clear u0 u1 u2 u3 hC1 e1
    obtain ⟨C, hC⟩ : ∃ C, cmpI (x.den : Int) 1 = C := ⟨_, rfl⟩
    have HBy := Lib.hid HBd.out.drew
    have HXy : Hid (Bk wd.drew w.heap.size 41 #[.bool t1, .slice B1 m1 d1, .bool t2, .slice B2 m2 d2]) := HXd
    have HPy := Lib.hid (HPd.out.later (Below.refl _ _).drew)
    have HQy := Lib.hid (HQd.out.later (Below.refl _ _).drew)
    have hfour := HXy.out.four4
    have HC4 : Hid ((fun w' : World => (w'.cell? ⟨w.heap.size, 0, none⟩ = some (.bool t1) ∧ w'.cell? ⟨w.heap.size, 1, none⟩ = some (.slice B1 m1 d1)) ∧ w'.cell? ⟨w.heap.size, 2, none⟩ = some (.bool t2) ∧ w'.cell? ⟨w.heap.size, 3, none⟩ = some (.slice B2 m2 d2)) wd.drew) := Lib.hid ⟨⟨hfour.1, hfour.2.1⟩, hfour.2.2⟩
    clear hfour
    refine region_goes (n := 5) (fun w' => (w'.cell? ⟨w.heap.size, 0, none⟩ = some (.bool t1) ∧ w'.cell? ⟨w.heap.size, 1, none⟩ = some (.slice B1 m1 d1)) ∧ w'.cell? ⟨w.heap.size, 2, none⟩ = some (.bool t2) ∧ w'.cell? ⟨w.heap.size, 3, none⟩ = some (.slice B2 m2 d2)) [] (by kernel_rfl) rfl ?_
    refine goes_takeE (i := 0) (E := []) (v := .pointer (some ⟨w.heap.size, 2, none⟩)) rfl (by kernel_rfl) rfl (fun _ _ _ h => h) (by intro w' hw'; obtain ⟨⟨z0, z1⟩, z2, z3⟩ := hw'; go_simp) HC4.out ?_
    refine goes_takeE (i := 1) (E := []) (v := .agg #[.bool t2, .slice B2 m2 d2]) rfl (by kernel_rfl) rfl (fun _ _ _ h => h) (by intro w' hw'; obtain ⟨⟨z0, z1⟩, z2, z3⟩ := hw'; go_simp) HC4.out ?_
    refine goes_call (i := 2) rfl (by kernel_rfl) ?_
    go_wp2_with (go_at_call 13; go_loud (with_reducible refine (rofH 1 _ (by omega) (by omega)).mono ?_; rintro e wi ⟨hbi, si, Ai, ni, ci, rfl, ii⟩; have HBi := Lib.hid (below_to HBy.out hbi HBy.out.size); have HXi := Lib.hid (HXy.out.below hbi HXy.out.lt); have HPi := Lib.hid (HPy.out.later hbi); have HQi := Lib.hid (HQy.out.later hbi); have HIi := Lib.hid ii; clear hbi ii))
    refine behind_ok ⟨⟨⟨HXi.out.four4.1, HXi.out.four4.2.1⟩, HXi.out.four4.2.2⟩, ?_⟩
    refine goes_call (i := 3) rfl (by kernel_rfl) ?_
    go_wp2_with (go_at_call 23; go_loud (with_reducible refine (rcmpH HQi.out HIi.out (Below.refl _ _) (Below.refl _ _) (by omega) (by omega) hC).mono ?_; rintro e wj ⟨hbj, rfl⟩; have HBj := Lib.hid (below_to HBi.out hbj HBi.out.size); have HXj := Lib.hid (HXi.out.below hbj HXi.out.lt); have HPj := Lib.hid (HPi.out.later hbj); have HQj := Lib.hid (HQi.out.later hbj); clear hbj))
    refine behind_ok ⟨⟨⟨HXj.out.four4.1, HXj.out.four4.2.1⟩, HXj.out.four4.2.2⟩, ?_⟩
    by_cases hd1 : x.den = 1
    · have hc0 : (C != 0) = false := by rw [← hC, cmpI_eq (by omega)]; rfl
      have hfm : bs (fmtR x) = S3 := by rw [fmt_one hd1]; exact hS3
      have HFM := Lib.hid hfm
      clear hfm hC hd1
      refine goes_takeE (i := 4) (E := []) (v := .bool false) rfl (by kernel_rfl) rfl (fun _ _ _ h => h) (by intro w' hw'; go_simp) ⟨⟨HXj.out.four4.1, HXj.out.four4.2.1⟩, HXj.out.four4.2.2⟩ ?_
      refine goes_done (by kernel_rfl) ?_
      go_wp2
      go_ret
      exact ⟨HBj.out, by rw [HFM.out]; rfl⟩
    · have hc0 : (C != 0) = true := by
        rw [← hC, cmpI_gt (by have := x.den_pos; omega)]; rfl
      obtain ⟨S2, hS2⟩ : ∃ S2, bs (dec x.den) = S2 := ⟨_, rfl⟩
      obtain ⟨S4, hS4⟩ : ∃ S4, S3 ++ (⟨#[47]⟩ : ByteArray) = S4 := ⟨_, rfl⟩
      obtain ⟨S5, hS5⟩ : ∃ S5, S4 ++ S2 = S5 := ⟨_, rfl⟩
      have hfm : bs (fmtR x) = S5 := by
        rw [fmt_more hd1, ← bs_append, ← bs_append, hS3, hS2, ← hS5, ← hS4]
        rfl
      have hz2 : S2.size ≤ 1000 := by rw [← hS2, bs_size]; exact dec_short (by omega) hden
      have hz4 : S4.size ≤ 1002 := by rw [← hS4, ByteArray.size_append]; have : (⟨#[47]⟩ : ByteArray).size = 1 := rfl; omega
      have hz47 : (⟨#[47]⟩ : ByteArray).size = 1 := rfl
      have HFM := Lib.hid hfm
      have HS2 := Lib.hid hS2
      clear hfm hC hd1 hS2
      refine goes_takeE (i := 4) (E := []) (v := .bool true) rfl (by kernel_rfl) rfl (fun _ _ _ h => h) (by intro w' hw'; go_simp) ⟨⟨HXj.out.four4.1, HXj.out.four4.2.1⟩, HXj.out.four4.2.2⟩ ?_
      refine goes_done (by kernel_rfl) ?_
      obtain ⟨v0, v1, v2, v3⟩ := HXj.out.four4
      go_wp2_with (go_at_call 83; go_loud (with_reducible refine (digits_any HQj.out (Below.refl _ _) h0 (by omega)).mono ?_; rw [HS2.out]; rintro e wk ⟨hbk, rfl⟩; have HBk := Lib.hid (below_to HBj.out hbk HBj.out.size); clear hbk))
      go_ret
      exact ⟨HBk.out, by rw [HFM.out]; rfl⟩
  · have e1 : decide (C1 < 0) = false := decide_eq_false (sign_not' hx hC1)
    obtain ⟨S3, hS3'⟩ : ∃ S3, S1 = S3 := ⟨_, rfl⟩
    have hS3 : bs (sgT x ++ dec x.num.natAbs) = S3 := by
      unfold sgT
      rw [if_neg hx, List.nil_append, HS1.out, hS3']
    have hz3 : S3.size ≤ 1001 := by rw [← hS3']; omega
    rw [hS3']
    clear hx
    go_upto_region 5 with (go_at_call 68; go_loud (with_reducible refine (rsignH HPc.out (Below.refl _ _) hC1).mono ?_; rintro e wd ⟨hbd, rfl⟩; have HBd := Lib.hid (below_to HBc.out hbd HBc.out.size); have HXd := Lib.hid (HXc.out.below hbd HXc.out.lt); have HPd := Lib.hid (HPc.out.later hbd); have HQd := Lib.hid (HQc.out.later hbd); clear hbd))
    clear u0 u1 u2 u3 hC1 e1
    obtain ⟨C, hC⟩ : ∃ C, cmpI (x.den : Int) 1 = C := ⟨_, rfl⟩
    have HBy := Lib.hid HBd.out.drew
    have HXy : Hid (Bk wd.drew w.heap.size 41 #[.bool t1, .slice B1 m1 d1, .bool t2, .slice B2 m2 d2]) := HXd
    have HPy := Lib.hid (HPd.out.later (Below.refl _ _).drew)
    have HQy := Lib.hid (HQd.out.later (Below.refl _ _).drew)
    have hfour := HXy.out.four4
    have HC4 : Hid ((fun w' : World => (w'.cell? ⟨w.heap.size, 0, none⟩ = some (.bool t1) ∧ w'.cell? ⟨w.heap.size, 1, none⟩ = some (.slice B1 m1 d1)) ∧ w'.cell? ⟨w.heap.size, 2, none⟩ = some (.bool t2) ∧ w'.cell? ⟨w.heap.size, 3, none⟩ = some (.slice B2 m2 d2)) wd.drew) := Lib.hid ⟨⟨hfour.1, hfour.2.1⟩, hfour.2.2⟩
    clear hfour
    refine region_goes (n := 5) (fun w' => (w'.cell? ⟨w.heap.size, 0, none⟩ = some (.bool t1) ∧ w'.cell? ⟨w.heap.size, 1, none⟩ = some (.slice B1 m1 d1)) ∧ w'.cell? ⟨w.heap.size, 2, none⟩ = some (.bool t2) ∧ w'.cell? ⟨w.heap.size, 3, none⟩ = some (.slice B2 m2 d2)) [] (by kernel_rfl) rfl ?_
    refine goes_takeE (i := 0) (E := []) (v := .pointer (some ⟨w.heap.size, 2, none⟩)) rfl (by kernel_rfl) rfl (fun _ _ _ h => h) (by intro w' hw'; obtain ⟨⟨z0, z1⟩, z2, z3⟩ := hw'; go_simp) HC4.out ?_
    refine goes_takeE (i := 1) (E := []) (v := .agg #[.bool t2, .slice B2 m2 d2]) rfl (by kernel_rfl) rfl (fun _ _ _ h => h) (by intro w' hw'; obtain ⟨⟨z0, z1⟩, z2, z3⟩ := hw'; go_simp) HC4.out ?_
    refine goes_call (i := 2) rfl (by kernel_rfl) ?_
    go_wp2_with (go_at_call 13; go_loud (with_reducible refine (rofH 1 _ (by omega) (by omega)).mono ?_; rintro e wi ⟨hbi, si, Ai, ni, ci, rfl, ii⟩; have HBi := Lib.hid (below_to HBy.out hbi HBy.out.size); have HXi := Lib.hid (HXy.out.below hbi HXy.out.lt); have HPi := Lib.hid (HPy.out.later hbi); have HQi := Lib.hid (HQy.out.later hbi); have HIi := Lib.hid ii; clear hbi ii))
    refine behind_ok ⟨⟨⟨HXi.out.four4.1, HXi.out.four4.2.1⟩, HXi.out.four4.2.2⟩, ?_⟩
    refine goes_call (i := 3) rfl (by kernel_rfl) ?_
    go_wp2_with (go_at_call 23; go_loud (with_reducible refine (rcmpH HQi.out HIi.out (Below.refl _ _) (Below.refl _ _) (by omega) (by omega) hC).mono ?_; rintro e wj ⟨hbj, rfl⟩; have HBj := Lib.hid (below_to HBi.out hbj HBi.out.size); have HXj := Lib.hid (HXi.out.below hbj HXi.out.lt); have HPj := Lib.hid (HPi.out.later hbj); have HQj := Lib.hid (HQi.out.later hbj); clear hbj))
    refine behind_ok ⟨⟨⟨HXj.out.four4.1, HXj.out.four4.2.1⟩, HXj.out.four4.2.2⟩, ?_⟩
    by_cases hd1 : x.den = 1
    · have hc0 : (C != 0) = false := by rw [← hC, cmpI_eq (by omega)]; rfl
      have hfm : bs (fmtR x) = S3 := by rw [fmt_one hd1]; exact hS3
      have HFM := Lib.hid hfm
      clear hfm hC hd1
      refine goes_takeE (i := 4) (E := []) (v := .bool false) rfl (by kernel_rfl) rfl (fun _ _ _ h => h) (by intro w' hw'; go_simp) ⟨⟨HXj.out.four4.1, HXj.out.four4.2.1⟩, HXj.out.four4.2.2⟩ ?_
      refine goes_done (by kernel_rfl) ?_
      go_wp2
      go_ret
      exact ⟨HBj.out, by rw [HFM.out]; rfl⟩
    · have hc0 : (C != 0) = true := by
        rw [← hC, cmpI_gt (by have := x.den_pos; omega)]; rfl
      obtain ⟨S2, hS2⟩ : ∃ S2, bs (dec x.den) = S2 := ⟨_, rfl⟩
      obtain ⟨S4, hS4⟩ : ∃ S4, S3 ++ (⟨#[47]⟩ : ByteArray) = S4 := ⟨_, rfl⟩
      obtain ⟨S5, hS5⟩ : ∃ S5, S4 ++ S2 = S5 := ⟨_, rfl⟩
      have hfm : bs (fmtR x) = S5 := by
        rw [fmt_more hd1, ← bs_append, ← bs_append, hS3, hS2, ← hS5, ← hS4]
        rfl
      have hz2 : S2.size ≤ 1000 := by rw [← hS2, bs_size]; exact dec_short (by omega) hden
      have hz4 : S4.size ≤ 1002 := by rw [← hS4, ByteArray.size_append]; have : (⟨#[47]⟩ : ByteArray).size = 1 := rfl; omega
      have hz47 : (⟨#[47]⟩ : ByteArray).size = 1 := rfl
      have HFM := Lib.hid hfm
      have HS2 := Lib.hid hS2
      clear hfm hC hd1 hS2
      refine goes_takeE (i := 4) (E := []) (v := .bool true) rfl (by kernel_rfl) rfl (fun _ _ _ h => h) (by intro w' hw'; go_simp) ⟨⟨HXj.out.four4.1, HXj.out.four4.2.1⟩, HXj.out.four4.2.2⟩ ?_
      refine goes_done (by kernel_rfl) ?_
      obtain ⟨v0, v1, v2, v3⟩ := HXj.out.four4
      go_wp2_with (go_at_call 83; go_loud (with_reducible refine (digits_any HQj.out (Below.refl _ _) h0 (by omega)).mono ?_; rw [HS2.out]; rintro e wk ⟨hbk, rfl⟩; have HBk := Lib.hid (below_to HBj.out hbk HBj.out.size); clear hbk))
      go_ret
      exact ⟨HBk.out, by rw [HFM.out]; rfl⟩

end Go.Proofs.YtfnibkodccfocaaGreat

/- Texts, the reference: Parse. -/
namespace Go.Proofs.YtfnibkodccfocaaGreat
open Go Go.RowKit

theorem ratH_of {w : World} {s1 s2 : Bool} {A1 A2 : Option Addr} {n1 c1 n2 c2 K : Nat} {a b : Int} {f1 f2 : Bool} (h1 : IntH w s1 A1 n1 c1 a K f1) (h2 : IntH w s2 A2 n2 c2 b K f2) : RatH w s1 A1 n1 c1 s2 A2 n2 c2 (frac a b) K false := by
  obtain ⟨l1, p1, rfl, -⟩ := h1.lim
  obtain ⟨l2, p2, rfl, -⟩ := h2.lim
  exact ⟨⟨l1, l2, p1, p2, rfl, fun h => by cases h⟩, h1.len, h2.len⟩
/-- What both ways of reading return of a text: the fraction, if it is written so, or an error. -/
def ParR (l : List Nat) (r : Rat) (K : Nat) (w : World) (e : Ending) (w' : World) : Prop :=
  Below w.heap.size w w' ∧ ((fmtR r = l ∧ ∃ s1 A1 n1 c1 s2 A2 n2 c2, e = .returned (.tuple #[.agg #[.bool s1, .slice A1 n1 c1, .bool s2, .slice A2 n2 c2], .int .i64 0]) ∧ RatH w' s1 A1 n1 c1 s2 A2 n2 c2 r K true) ∨
    (fmtR r ≠ l ∧ e = .returned (.tuple #[.agg #[.bool false, .slice none 0 0, .bool false, .slice none 0 0], .int .i64 7])))
def NoS (l : List Nat) (k : Nat) : Prop := ∀ j, j < k → l.getD j 0 ≠ 47
theorem top_take {l : List Nat} {k : Nat} (hk : k < l.length) (h : ∀ j, j < k → l.getD j 0 ≠ 47) (h2 : l.getD k 0 = 47) : top l = l.take k ∧ bot l = l.drop (k + 1) ∧ 47 ∈ l := by
  have e : l = l.take k ++ 47 :: l.drop (k + 1) := by
    conv => lhs; rw [← List.take_append_drop k l]
    congr 1
    rw [List.drop_eq_getElem_cons hk]
    congr 1
    rw [List.getD_eq_getElem?_getD, List.getElem?_eq_getElem hk] at h2
    exact h2
  have hno : ∀ x ∈ l.take k, x ≠ 47 := by
    intro x hx
    obtain ⟨j, hj, rfl⟩ := List.getElem_of_mem hx
    rw [List.length_take] at hj
    have := h j (by omega)
    rw [List.getD_eq_getElem?_getD, List.getElem?_eq_getElem (by omega)] at this
    rw [List.getElem_take]
    exact this
  have := top_of (b := l.drop (k + 1)) hno
  rw [← e] at this
  exact ⟨this.1, this.2, by rw [e]; simp⟩
theorem top_none {l : List Nat} (h : ∀ j, j < l.length → l.getD j 0 ≠ 47) : top l = l ∧ 47 ∉ l := by
  have hno : ∀ x ∈ l, x ≠ 47 := by
    intro x hx
    obtain ⟨j, hj, rfl⟩ := List.getElem_of_mem hx
    have := h j hj
    rw [List.getD_eq_getElem?_getD, List.getElem?_eq_getElem hj] at this
    exact this
  exact ⟨(top_all hno).1, fun hm => hno _ hm rfl⟩
theorem top_codes {l : List Nat} (h : Codes l) : Codes (top l) ∧ Codes (bot l) ∧ (top l).length ≤ l.length ∧ (bot l).length ≤ l.length := by
  refine ⟨fun c hc => h c ((List.takeWhile_sublist _).mem hc), fun c hc => h c ?_, ?_, ?_⟩
  · have h1 : c ∈ l.dropWhile (fun c => decide (c ≠ 47)) := List.mem_of_mem_drop hc
    exact (List.dropWhile_sublist _).mem h1
  · exact (List.takeWhile_sublist _).length_le
  · unfold bot
    rw [List.length_drop]
    have := (List.dropWhile_sublist (fun c => decide (c ≠ 47)) (l := l)).length_le
    omega
/- The fraction is read: of the world %1 with HB, H2, H6, HR. -/
set_option maxRecDepth 100000 in
set_option maxHeartbeats 800000 in
theorem refParse_large {l : List Nat} (hn : 800 < l.length) (w : World) : Calls Tryz.prog 45 #[.string (bs l)] w fun e w' => Below w.heap.size w w' ∧ e = .returned (.tuple #[.agg #[.bool false, .slice none 0 0, .bool false, .slice none 0 0], .int .i64 8]) := by
  have hs := bs_size l
  have e1 : decide (((bs l).size : Int) > 800) = true := decide_eq_true (by omega)
  generalize bs l = S at *
  go_enter Tryz.func45, Tryz.ntmps45
  go_wp2
  refine bodyPost_ret (v := .tuple #[.agg #[.bool false, .slice none 0 0, .bool false, .slice none 0 0], .int .i64 8]) (by simp [results, Tryz.results45, go_sem]) rfl ?_
  exact ⟨(by repeat (first | with_reducible exact Below.refl _ _ | with_reducible assumption | with_reducible refine Below.drew ?_ | with_reducible refine Below.drewN ?_ _ | with_reducible refine Below.alloc2 ?_ _ | with_reducible refine Below.alloc ?_ (by first | omega | (simp <;> omega)) _ | with_reducible refine Below.setCell ?_ (by first | omega | (simp <;> omega)) _ | with_reducible refine Below.step2 (by with_reducible assumption) ?_ | with_reducible refine Below.step (by with_reducible assumption) ?_ (by first | omega | (simp <;> omega)))), rfl⟩
set_option maxRecDepth 100000 in
set_option maxHeartbeats 1600000 in
theorem refParse_any {l : List Nat} (hl : Codes l) (hn : l.length ≤ 100) (w : World) : Calls Tryz.prog 45 #[.string (bs l)] w (ParR l (parR l) 13 w) := by
  have hs := bs_size l
  have HIX : Hid (∀ k, k < l.length → ∀ W, (Instr.index 9 (.string (bs l)) (.int .i64 (k : Int))).run Tryz.prog W = .ok (.int .u8 ((l.getD k 0 : Nat) : Int)) W) := Lib.hid fun k hk W => idx_at hl hk W
  have HEX : Hid (∀ a b, (bs l).extract a b = bs ((l.drop a).take (b - a))) := Lib.hid (bs_extract l)
  have hsz : ((bs l).size : Int) = ((l.length : Nat) : Int) := by rw [hs]
  have HEQ : Hid (∀ b, Codes b → ((bs b).toList == (bs l).toList) = decide (b = l)) := Lib.hid fun b hb => beq_bs hb hl
  have HL := Lib.hid hl
  obtain ⟨S, hS⟩ : ∃ S, bs l = S := ⟨_, rfl⟩
  rw [hS] at HIX HEX hsz HEQ hs ⊢
  clear hS hl
  have e1 : decide (((l.length : Nat) : Int) > 800) = false := decide_eq_false (by omega)
  go_enter Tryz.func45, Tryz.ntmps45
  go_upto_region 4 with fail
  obtain ⟨T, hT⟩ : ∃ T, T = (w.alloc (.cells #[.bool false, .slice none 0 0, .bool false, .slice none 0 0] 41)) := ⟨_, rfl⟩
  have HBT : Hid (Below w.heap.size w T) := Lib.hid (by rw [hT]; exact (by repeat (first | with_reducible exact Below.refl _ _ | with_reducible assumption | with_reducible refine Below.drew ?_ | with_reducible refine Below.drewN ?_ _ | with_reducible refine Below.alloc2 ?_ _ | with_reducible refine Below.alloc ?_ (by first | omega | (simp <;> omega)) _ | with_reducible refine Below.setCell ?_ (by first | omega | (simp <;> omega)) _ | with_reducible refine Below.step2 (by with_reducible assumption) ?_ | with_reducible refine Below.step (by with_reducible assumption) ?_ (by first | omega | (simp <;> omega)))))
  have H2T : Hid (Bk T w.heap.size 41 #[.bool false, .slice none 0 0, .bool false, .slice none 0 0]) := Lib.hid (by rw [hT]; exact (by repeat (first | with_reducible assumption | with_reducible exact Bk.at_ (by first | (simp; done) | omega) | with_reducible refine Bk.alloc ?_ _ | with_reducible refine Bk.drew ?_ | with_reducible refine Bk.drewN ?_ _ | with_reducible refine Bk.step (by with_reducible assumption) ?_ (by first | omega | (simp <;> omega)))))
  rw [← hT]
  clear hT e1
  go_wp2
  go_loop [4, 5] (fun v4 v5 => ∃ (k : Nat), k ≤ l.length ∧ v4 = .int .i64 ((l.length : Nat) : Int) ∧ v5 = .int .i64 (k : Int) ∧ Hid (NoS l k)) (fun _ v5 => l.length - (intOf v5).toNat)
  case atStart => exact ⟨0, Nat.zero_le _, rfl, rfl, Lib.hid fun j hj => absurd hj (Nat.not_lt_zero j)⟩
  case round =>
    obtain ⟨k, hk, rfl, rfl, HNO⟩ := hrel
    rcases Nat.lt_or_ge k l.length with hlt | hge
    · have hix := HIX.out k hlt
      obtain ⟨ch, hch⟩ : ∃ ch, l.getD k 0 = ch := ⟨_, rfl⟩
      rw [hch] at hix
      by_cases h47 : ch = 47
      · have e1 : ((ch : Int) == 47) = true := by simpa using (show (ch : Int) = 47 by omega)
        obtain ⟨ht, hb, hm⟩ := top_take hlt HNO.out (hch.trans h47)
        clear hch HIX HNO h47
        have e3 : decide (((k : Nat) : Int) < ((l.length : Nat) : Int)) = true := decide_eq_true (by omega)
        have htc := top_codes HL.out
        obtain ⟨htc1, htc2, htl1, htl2⟩ := htc
        obtain ⟨ST, hST⟩ : ∃ ST, bs (top l) = ST := ⟨_, rfl⟩
        have HRT : Hid (∀ W, Calls Tryz.prog 80 #[.string ST] W (MakesInt (rdI (top l)) 13 W)) := Lib.hid fun W => by
          have := refRead_any htc1 (by omega) W
          rwa [hST] at this
        have hx1 : S.extract 0 k = ST := by rw [HEX.out, ← hST, ht, List.drop_zero, Nat.sub_zero]
        clear hST
        obtain ⟨SB, hSB⟩ : ∃ SB, bs (bot l) = SB := ⟨_, rfl⟩
        have HRB : Hid (∀ W, Calls Tryz.prog 80 #[.string SB] W (MakesInt (rdI (bot l)) 13 W)) := Lib.hid fun W => by
          have := refRead_any htc2 (by omega) W
          rwa [hSB] at this
        have hx2 : S.extract (k + 1) l.length = SB := by
          rw [HEX.out, ← hSB, hb, List.take_of_length_le (by simp)]
        have hpar : parR l = frac (rdI (top l)) (rdI (bot l)) := by unfold parR; rw [if_pos hm]
        have HPAR := Lib.hid hpar
        clear hSB ht hb hm hpar htc1 htc2 htl1 htl2
        go_upto_region 10 with (first
          | (go_at_call 13; go_loud (with_reducible refine (rofH 1 _ (by omega) (by omega)).mono ?_; rintro e wb ⟨hbb, s3, A3, n3, c3, rfl, ib⟩; have HBb := Lib.hid (below_to HBa.out hbb HBa.out.size); have H2b := Lib.hid (H2a.out.below hbb H2a.out.lt); have HIb := Lib.hid (IntH.wide ib (show 2 ≤ 13 by omega)); have HIa2 := Lib.hid (HIa.out.later hbb); clear hbb ib))
          | (go_at_call 80; with_reducible refine (HRT.out _).mono ?_; rintro e wa ⟨hba, s1, A1, n1, c1, rfl, ia⟩; have HBa := Lib.hid (below_to HBT.out hba HBT.out.size); have H2a := Lib.hid (H2T.out.below hba H2T.out.lt); have HIa := Lib.hid ia; clear hba ia))
        obtain ⟨U, hU⟩ : ∃ U, U = (wb.alloc (.cells #[.bool s1, .slice A1 n1 c1, .bool s3, .slice A3 n3 c3] 41)) := ⟨_, rfl⟩
        have hbU : Below wb.heap.size wb U := by rw [hU]; exact (by repeat (first | with_reducible exact Below.refl _ _ | with_reducible assumption | with_reducible refine Below.drew ?_ | with_reducible refine Below.drewN ?_ _ | with_reducible refine Below.alloc2 ?_ _ | with_reducible refine Below.alloc ?_ (by first | omega | (simp <;> omega)) _ | with_reducible refine Below.setCell ?_ (by first | omega | (simp <;> omega)) _ | with_reducible refine Below.step2 (by with_reducible assumption) ?_ | with_reducible refine Below.step (by with_reducible assumption) ?_ (by first | omega | (simp <;> omega))))
        have H6U : Hid (Bk U wb.heap.size 41 #[.bool s1, .slice A1 n1 c1, .bool s3, .slice A3 n3 c3]) := Lib.hid (by rw [hU]; exact (by repeat (first | with_reducible assumption | with_reducible exact Bk.at_ (by first | (simp; done) | omega) | with_reducible refine Bk.alloc ?_ _ | with_reducible refine Bk.drew ?_ | with_reducible refine Bk.drewN ?_ _ | with_reducible refine Bk.step (by with_reducible assumption) ?_ (by first | omega | (simp <;> omega)))))
        rw [← hU]
        have HBU := Lib.hid (below_to HBb.out hbU HBb.out.size); have H2U := Lib.hid (H2b.out.below hbU H2b.out.lt)
        have HRU := Lib.hid (ratH_of (HIa2.out.later hbU) (HIb.out.later hbU))
        have HIU := Lib.hid (HIa2.out.later hbU)
        have owb := H2b.out.lt
        clear hU hbU HBT H2T HBa H2a HBb H2b HIa HIa2 HIb hx1
        obtain ⟨x0, x1, x2, x3⟩ := H6U.out.four4
        go_upto_region 12 with (go_at_call 80; go_loud (refine (HRB.out _).mono ?_; rintro e wd ⟨hbd, s4, A4, n4, c4, rfl, id⟩; have HBd := Lib.hid (below_to HBU.out hbd HBU.out.size); have H2d := Lib.hid (H2U.out.below hbd H2U.out.lt); have h6d := H6U.out.below hbd H6U.out.lt; have f2 := h6d.frozen 2; have f3 := h6d.frozen 3; obtain ⟨y0, y1, y2, y3⟩ := h6d.four4; have H6d := Lib.hid h6d; have HRd := Lib.hid (ratH_of (HIU.out.later hbd) id); clear hbd h6d id x0 x1 x2 x3))
        obtain ⟨V, hV⟩ : ∃ V, V = ((wd.setCell ⟨wb.heap.size, 2, none⟩ (.bool s4)).setCell ⟨wb.heap.size, 3, none⟩ (.slice A4 n4 c4)) := ⟨_, rfl⟩
        have HBV : Hid (Below w.heap.size w V) := Lib.hid (by rw [hV]; exact (HBd.out.setCell (show w.heap.size ≤ wb.heap.size by omega) _).setCell (show w.heap.size ≤ wb.heap.size by omega) _)
        have H2V : Hid (Bk V w.heap.size 41 #[.bool false, .slice none 0 0, .bool false, .slice none 0 0]) := Lib.hid (by rw [hV]; exact (H2d.out.other (p := ⟨wb.heap.size, 2, none⟩) (show w.heap.size ≠ wb.heap.size by omega) _).other (p := ⟨wb.heap.size, 3, none⟩) (show w.heap.size ≠ wb.heap.size by omega) _)
        have H6V : Hid (Bk V wb.heap.size 41 #[.bool s1, .slice A1 n1 c1, .bool s4, .slice A4 n4 c4]) := Lib.hid (by
          rw [hV]
          have := (H6d.out.set_ 2 (.bool s4)).set_ 3 (.slice A4 n4 c4)
          simpa using this)
        have HRV : Hid (RatH V s1 A1 n1 c1 s4 A4 n4 c4 (parR l) 13 false) := Lib.hid (by
          rw [HPAR.out]
          exact HRd.out.stored H6d.out (fun p hp => by
            rw [hV]
            exact (World.cell?_setCell_other _ _ _ _ (fun e => hp (by rw [← e]))).trans (World.cell?_setCell_other _ _ _ _ (fun e => hp (by rw [← e])))) (by rw [hV]; simp [World.setCell]))
        rw [← hV]
        clear hV HBd H2d H6d HRd f2 f3 y0 y1 y2 y3 HIU HRU HBU H2U H6U HRB
        obtain ⟨x0, x1, x2, x3⟩ := H6V.out.four4
        go_upto_region 13 with (go_at_call 31; go_loud (with_reducible refine (rnormT HRV.out (Below.refl _ _) (by omega) (by omega)).mono ?_; rintro e wn ⟨hbn, t1, B1, m1, d1, t2, B2, m2, d2, rfl, hr⟩; have HBn := Lib.hid (below_to HBV.out hbn HBV.out.size); have H2n := Lib.hid (H2V.out.below hbn H2V.out.lt); have h6n := H6V.out.below hbn H6V.out.lt; have f0 := h6n.frozen 0; have f1 := h6n.frozen 1; have f2 := h6n.frozen 2; have f3 := h6n.frozen 3; obtain ⟨r0, r1, r2, r3⟩ := h6n.four4; have H6n := Lib.hid h6n; have HRn := Lib.hid hr; clear hbn h6n hr))
        obtain ⟨Z, hZ, hZb, hZk, hZr, hZo, -⟩ := stored_over HBn.out (show w.heap.size ≤ wb.heap.size by omega) H6n.out HRn.out
        rw [← hZ]
        have HBZ := Lib.hid hZb
        have H6Z := Lib.hid hZk
        have HRZ := Lib.hid hZr
        have H2Z := Lib.hid (hZo _ _ _ (show w.heap.size ≠ wb.heap.size by omega) H2n.out)
        clear hZ hZb hZk hZr hZo f0 f1 f2 f3 r0 r1 r2 r3 x0 x1 x2 x3 HBn H6n HRn H2n
        obtain ⟨SF, hSF⟩ : ∃ SF, bs (fmtR (parR l)) = SF := ⟨_, rfl⟩
        have heq := HEQ.out _ (fmt_codes (parR l))
        rw [hSF] at heq
        have HFM : Hid (∀ W, Below Z.heap.size Z W → Calls Tryz.prog 47 #[.agg #[.bool t1, .slice B1 m1 d1, .bool t2, .slice B2 m2 d2]] W fun e w' => Below W.heap.size W w' ∧ e = .returned (.string SF)) := Lib.hid fun W hW => by
          have := refFormat_any HRZ.out hW (by omega) (by omega)
          rwa [hSF] at this
        clear hSF
        obtain ⟨x0, x1, x2, x3⟩ := H6Z.out.four4
        by_cases hfm : fmtR (parR l) = l
        · rw [decide_eq_true hfm] at heq
          go_wp2_with (go_at_call 47; go_loud (refine (HFM.out _ (Below.refl _ _)).mono ?_; rintro e wy ⟨hby, rfl⟩; have HBy := Lib.hid (below_to HBZ.out hby HBZ.out.size); have H2y := Lib.hid (H2Z.out.below hby H2Z.out.lt); have h6y := H6Z.out.below hby H6Z.out.lt; obtain ⟨y0, y1, y2, y3⟩ := h6y.four4; have HRy := Lib.hid (HRZ.out.later hby); have f0 := H2y.out.frozen 0; have f1 := H2y.out.frozen 1; have f2 := H2y.out.frozen 2; have f3 := H2y.out.frozen 3; obtain ⟨r0, r1, r2, r3⟩ := H2y.out.four4; clear hby h6y))
          obtain ⟨Y, hY, hYb, hYk, hYr, -, -⟩ := stored_over HBy.out (Nat.le_refl _) H2y.out HRy.out
          rw [← hY]
          obtain ⟨q0, q1, q2, q3⟩ := hYk.four4
          refine bodyPost_ret (v := .tuple #[.agg #[.bool t1, .slice B1 m1 d1, .bool t2, .slice B2 m2 d2], .int .i64 0]) (by simp [results, Tryz.results45, go_sem, q0, q1, q2, q3]) rfl ?_
          exact ⟨hYb, .inl ⟨hfm, t1, B1, m1, d1, t2, B2, m2, d2, rfl, hYr⟩⟩
        · rw [decide_eq_false hfm] at heq
          go_wp2_with (go_at_call 47; go_loud (refine (HFM.out _ (Below.refl _ _)).mono ?_; rintro e wy ⟨hby, rfl⟩; have HBy := Lib.hid (below_to HBZ.out hby HBZ.out.size); have H2y := Lib.hid (H2Z.out.below hby H2Z.out.lt); have f0 := H2y.out.frozen 0; have f1 := H2y.out.frozen 1; have f2 := H2y.out.frozen 2; have f3 := H2y.out.frozen 3; obtain ⟨r0, r1, r2, r3⟩ := H2y.out.four4; clear hby))
          obtain ⟨q0, q1, q2, q3⟩ := (H2y.out.four_set (.bool false) (.slice none 0 0) (.bool false) (.slice none 0 0)).four4
          refine bodyPost_ret (v := .tuple #[.agg #[.bool false, .slice none 0 0, .bool false, .slice none 0 0], .int .i64 7]) (by simp [results, Tryz.results45, go_sem, q0, q1, q2, q3]) rfl ?_
          exact ⟨(((HBy.out.setCell (Nat.le_refl _) _).setCell (Nat.le_refl _) _).setCell (Nat.le_refl _) _).setCell (Nat.le_refl _) _, .inr ⟨hfm, rfl⟩⟩
      · have e1 : ((ch : Int) == 47) = false := by simpa using (show ¬ (ch : Int) = 47 by omega)
        have HN2 : Hid (NoS l (k + 1)) := Lib.hid fun j hj => by
          rcases Nat.lt_or_ge j k with h | h
          · exact HNO.out j h
          · obtain rfl : j = k := by omega
            rw [hch]; exact h47
        clear hch h47 HNO
        go_wp2
        go_round
        case rel => exact ⟨k + 1, by omega, rfl, by go_num, HN2⟩
        case measure => simp [intOf]; omega
    · obtain rfl : k = l.length := by omega
      obtain ⟨ht0, hm⟩ := top_none HNO.out
      have ht : top l = l.take l.length := by rw [ht0, List.take_length]
      have e3 : decide (((l.length : Nat) : Int) < ((l.length : Nat) : Int)) = false := decide_eq_false (by omega)
      clear HIX HNO
      obtain ⟨k, hk2⟩ : ∃ k, k = l.length := ⟨_, rfl⟩
      rw [← hk2] at ht
      have htc := top_codes HL.out
      obtain ⟨htc1, htc2, htl1, htl2⟩ := htc
      obtain ⟨ST, hST⟩ : ∃ ST, bs (top l) = ST := ⟨_, rfl⟩
      have HRT : Hid (∀ W, Calls Tryz.prog 80 #[.string ST] W (MakesInt (rdI (top l)) 13 W)) := Lib.hid fun W => by
        have := refRead_any htc1 (by omega) W
        rwa [hST] at this
      have hx1 : S.extract 0 k = ST := by rw [HEX.out, ← hST, ht, List.drop_zero, Nat.sub_zero]
      clear hST
      rw [hk2] at hx1
      have hpar : parR l = frac (rdI (top l)) 1 := by unfold parR; rw [if_neg hm]
      have HPAR := Lib.hid hpar
      clear ht0 ht hm hpar htc1 htc2 htl1 htl2 hk2
      go_upto_region 10 with (first
        | (go_at_call 13; go_loud (with_reducible refine (rofH 1 _ (by omega) (by omega)).mono ?_; rintro e wb ⟨hbb, s3, A3, n3, c3, rfl, ib⟩; have HBb := Lib.hid (below_to HBa.out hbb HBa.out.size); have H2b := Lib.hid (H2a.out.below hbb H2a.out.lt); have HIb := Lib.hid (IntH.wide ib (show 2 ≤ 13 by omega)); have HIa2 := Lib.hid (HIa.out.later hbb); clear hbb ib))
        | (go_at_call 80; with_reducible refine (HRT.out _).mono ?_; rintro e wa ⟨hba, s1, A1, n1, c1, rfl, ia⟩; have HBa := Lib.hid (below_to HBT.out hba HBT.out.size); have H2a := Lib.hid (H2T.out.below hba H2T.out.lt); have HIa := Lib.hid ia; clear hba ia))
      obtain ⟨U, hU⟩ : ∃ U, U = (wb.alloc (.cells #[.bool s1, .slice A1 n1 c1, .bool s3, .slice A3 n3 c3] 41)) := ⟨_, rfl⟩
      have hbU : Below wb.heap.size wb U := by rw [hU]; exact (by repeat (first | with_reducible exact Below.refl _ _ | with_reducible assumption | with_reducible refine Below.drew ?_ | with_reducible refine Below.drewN ?_ _ | with_reducible refine Below.alloc2 ?_ _ | with_reducible refine Below.alloc ?_ (by first | omega | (simp <;> omega)) _ | with_reducible refine Below.setCell ?_ (by first | omega | (simp <;> omega)) _ | with_reducible refine Below.step2 (by with_reducible assumption) ?_ | with_reducible refine Below.step (by with_reducible assumption) ?_ (by first | omega | (simp <;> omega))))
      have H6U : Hid (Bk U wb.heap.size 41 #[.bool s1, .slice A1 n1 c1, .bool s3, .slice A3 n3 c3]) := Lib.hid (by rw [hU]; exact (by repeat (first | with_reducible assumption | with_reducible exact Bk.at_ (by first | (simp; done) | omega) | with_reducible refine Bk.alloc ?_ _ | with_reducible refine Bk.drew ?_ | with_reducible refine Bk.drewN ?_ _ | with_reducible refine Bk.step (by with_reducible assumption) ?_ (by first | omega | (simp <;> omega)))))
      rw [← hU]
      have HBU := Lib.hid (below_to HBb.out hbU HBb.out.size); have H2U := Lib.hid (H2b.out.below hbU H2b.out.lt)
      have HRU := Lib.hid (ratH_of (HIa2.out.later hbU) (HIb.out.later hbU))
      have HIU := Lib.hid (HIa2.out.later hbU)
      have owb := H2b.out.lt
      clear hU hbU HBT H2T HBa H2a HBb H2b HIa HIa2 HIb hx1
      rw [← HPAR.out] at HRU
      clear HIU
      obtain ⟨x0, x1, x2, x3⟩ := H6U.out.four4
      go_upto_region 13 with (go_at_call 31; go_loud (with_reducible refine (rnormT HRU.out (Below.refl _ _) (by omega) (by omega)).mono ?_; rintro e wn ⟨hbn, t1, B1, m1, d1, t2, B2, m2, d2, rfl, hr⟩; have HBn := Lib.hid (below_to HBU.out hbn HBU.out.size); have H2n := Lib.hid (H2U.out.below hbn H2U.out.lt); have h6n := H6U.out.below hbn H6U.out.lt; have f0 := h6n.frozen 0; have f1 := h6n.frozen 1; have f2 := h6n.frozen 2; have f3 := h6n.frozen 3; obtain ⟨r0, r1, r2, r3⟩ := h6n.four4; have H6n := Lib.hid h6n; have HRn := Lib.hid hr; clear hbn h6n hr))
      obtain ⟨Z, hZ, hZb, hZk, hZr, hZo, -⟩ := stored_over HBn.out (show w.heap.size ≤ wb.heap.size by omega) H6n.out HRn.out
      rw [← hZ]
      have HBZ := Lib.hid hZb
      have H6Z := Lib.hid hZk
      have HRZ := Lib.hid hZr
      have H2Z := Lib.hid (hZo _ _ _ (show w.heap.size ≠ wb.heap.size by omega) H2n.out)
      clear hZ hZb hZk hZr hZo f0 f1 f2 f3 r0 r1 r2 r3 x0 x1 x2 x3 HBn H6n HRn H2n
      obtain ⟨SF, hSF⟩ : ∃ SF, bs (fmtR (parR l)) = SF := ⟨_, rfl⟩
      have heq := HEQ.out _ (fmt_codes (parR l))
      rw [hSF] at heq
      have HFM : Hid (∀ W, Below Z.heap.size Z W → Calls Tryz.prog 47 #[.agg #[.bool t1, .slice B1 m1 d1, .bool t2, .slice B2 m2 d2]] W fun e w' => Below W.heap.size W w' ∧ e = .returned (.string SF)) := Lib.hid fun W hW => by
        have := refFormat_any HRZ.out hW (by omega) (by omega)
        rwa [hSF] at this
      clear hSF
      obtain ⟨x0, x1, x2, x3⟩ := H6Z.out.four4
      by_cases hfm : fmtR (parR l) = l
      · rw [decide_eq_true hfm] at heq
        go_wp2_with (go_at_call 47; go_loud (refine (HFM.out _ (Below.refl _ _)).mono ?_; rintro e wy ⟨hby, rfl⟩; have HBy := Lib.hid (below_to HBZ.out hby HBZ.out.size); have H2y := Lib.hid (H2Z.out.below hby H2Z.out.lt); have h6y := H6Z.out.below hby H6Z.out.lt; obtain ⟨y0, y1, y2, y3⟩ := h6y.four4; have HRy := Lib.hid (HRZ.out.later hby); have f0 := H2y.out.frozen 0; have f1 := H2y.out.frozen 1; have f2 := H2y.out.frozen 2; have f3 := H2y.out.frozen 3; obtain ⟨r0, r1, r2, r3⟩ := H2y.out.four4; clear hby h6y))
        obtain ⟨Y, hY, hYb, hYk, hYr, -, -⟩ := stored_over HBy.out (Nat.le_refl _) H2y.out HRy.out
        rw [← hY]
        obtain ⟨q0, q1, q2, q3⟩ := hYk.four4
        refine bodyPost_ret (v := .tuple #[.agg #[.bool t1, .slice B1 m1 d1, .bool t2, .slice B2 m2 d2], .int .i64 0]) (by simp [results, Tryz.results45, go_sem, q0, q1, q2, q3]) rfl ?_
        exact ⟨hYb, .inl ⟨hfm, t1, B1, m1, d1, t2, B2, m2, d2, rfl, hYr⟩⟩
      · rw [decide_eq_false hfm] at heq
        go_wp2_with (go_at_call 47; go_loud (refine (HFM.out _ (Below.refl _ _)).mono ?_; rintro e wy ⟨hby, rfl⟩; have HBy := Lib.hid (below_to HBZ.out hby HBZ.out.size); have H2y := Lib.hid (H2Z.out.below hby H2Z.out.lt); have f0 := H2y.out.frozen 0; have f1 := H2y.out.frozen 1; have f2 := H2y.out.frozen 2; have f3 := H2y.out.frozen 3; obtain ⟨r0, r1, r2, r3⟩ := H2y.out.four4; clear hby))
        obtain ⟨q0, q1, q2, q3⟩ := (H2y.out.four_set (.bool false) (.slice none 0 0) (.bool false) (.slice none 0 0)).four4
        refine bodyPost_ret (v := .tuple #[.agg #[.bool false, .slice none 0 0, .bool false, .slice none 0 0], .int .i64 7]) (by simp [results, Tryz.results45, go_sem, q0, q1, q2, q3]) rfl ?_
        exact ⟨(((HBy.out.setCell (Nat.le_refl _) _).setCell (Nat.le_refl _) _).setCell (Nat.le_refl _) _).setCell (Nat.le_refl _) _, .inr ⟨hfm, rfl⟩⟩

end Go.Proofs.YtfnibkodccfocaaGreat
