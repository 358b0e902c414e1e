/- Plain facts on lists of limbs: their value, their bounds, their normal form. No program is named here. -/
namespace Go.Proofs.YtfnibkodccfocaaGreat

/-- The value of limbs, the lowest first. -/
def val : List Nat → Nat
  | [] => 0
  | x :: r => x + 4294967296 * val r

/-- What the limb at place k counts. -/
def W (k : Nat) : Nat := 4294967296 ^ k

/-- Each limb is below 2^32. -/
def Bd (l : List Nat) : Prop := ∀ x ∈ l, x < 4294967296

/-- No zero at the end. -/
def Norm (l : List Nat) : Prop := l.getLast? ≠ some 0

theorem W_zero : W 0 = 1 := rfl
theorem W_succ (k : Nat) : W (k + 1) = 4294967296 * W k := by unfold W; rw [Nat.pow_succ, Nat.mul_comm]
theorem W_pos (k : Nat) : 0 < W k := Nat.pow_pos (by omega)
theorem W_add (a b : Nat) : W (a + b) = W a * W b := Nat.pow_add _ _ _
theorem W_mono {a b : Nat} (h : a ≤ b) : W a ≤ W b := Nat.pow_le_pow_right (by omega) h

theorem val_nil : val [] = 0 := rfl
theorem val_cons (x : Nat) (r : List Nat) : val (x :: r) = x + 4294967296 * val r := rfl
theorem val_append (a b : List Nat) : val (a ++ b) = val a + W a.length * val b := by
  induction a with
  | nil => simp [val, W_zero]
  | cons x r ih => simp only [List.cons_append, val, ih, List.length_cons, W_succ, Nat.mul_add, Nat.mul_assoc]; omega
theorem val_snoc (a : List Nat) (x : Nat) : val (a ++ [x]) = val a + W a.length * x := by rw [val_append]; simp [val]
theorem val_replicate (n : Nat) : val (List.replicate n 0) = 0 := by
  induction n with
  | zero => rfl
  | succ n ih => rw [List.replicate_succ, val, ih]

theorem Bd.nil : Bd [] := by intro x h; cases h
theorem Bd.cons {x : Nat} {r : List Nat} (h : x < 4294967296) (hr : Bd r) : Bd (x :: r) := by
  intro y hy; rcases List.mem_cons.1 hy with rfl | hy
  · exact h
  · exact hr y hy
theorem Bd.append {a b : List Nat} (ha : Bd a) (hb : Bd b) : Bd (a ++ b) := by
  intro x hx; rcases List.mem_append.1 hx with h | h
  · exact ha x h
  · exact hb x h
theorem Bd.snoc {a : List Nat} {x : Nat} (ha : Bd a) (h : x < 4294967296) : Bd (a ++ [x]) := ha.append (Bd.nil.cons h)
theorem Bd.take {a : List Nat} (h : Bd a) (k : Nat) : Bd (a.take k) := fun x hx => h x (List.mem_of_mem_take hx)
theorem Bd.drop {a : List Nat} (h : Bd a) (k : Nat) : Bd (a.drop k) := fun x hx => h x (List.mem_of_mem_drop hx)
theorem Bd.get {a : List Nat} (h : Bd a) {k : Nat} (hk : k < a.length) : a[k] < 4294967296 := h _ (List.getElem_mem hk)
theorem Bd.getD {a : List Nat} (h : Bd a) (k : Nat) : a.getD k 0 < 4294967296 := by
  by_cases hk : k < a.length
  · rw [List.getD_eq_getElem?_getD, List.getElem?_eq_getElem hk]; exact h.get hk
  · rw [List.getD_eq_getElem?_getD, List.getElem?_eq_none (by omega)]; simp
theorem Bd.replicate (n : Nat) : Bd (List.replicate n 0) := by
  intro x hx; rw [(List.mem_replicate.1 hx).2]; omega
theorem Bd.set {a : List Nat} (h : Bd a) (k : Nat) {x : Nat} (hx : x < 4294967296) : Bd (a.set k x) := by
  intro y hy
  rcases List.mem_or_eq_of_mem_set hy with h' | h'
  · exact h y h'
  · omega

theorem val_lt {l : List Nat} (h : Bd l) : val l < W l.length := by
  induction l with
  | nil => simp [val, W_zero]
  | cons x r ih =>
    have hx : x < 4294967296 := h x (by simp)
    have hr := ih fun y hy => h y (by simp [hy])
    simp only [val, List.length_cons, W_succ]
    omega

theorem val_take_succ (l : List Nat) {k : Nat} (h : k < l.length) : val (l.take (k + 1)) = val (l.take k) + W k * l[k] := by
  rw [List.take_succ_eq_append_getElem h, val_snoc, List.length_take, Nat.min_eq_left (by omega)]

theorem val_take_drop (l : List Nat) (k : Nat) (h : k ≤ l.length) : val l = val (l.take k) + W k * val (l.drop k) := by
  conv => lhs; rw [← List.take_append_drop k l]
  rw [val_append, List.length_take, Nat.min_eq_left h]

/-- Two lists of one length with one value are one. -/
theorem val_inj : ∀ {a b : List Nat}, Bd a → Bd b → a.length = b.length → val a = val b → a = b
  | [], [], _, _, _, _ => rfl
  | [], y :: s, _, _, hl, _ => by simp at hl
  | x :: r, [], _, _, hl, _ => by simp at hl
  | x :: r, y :: s, ha, hb, hl, hv => by
    have hx : x < 4294967296 := ha x (by simp)
    have hy : y < 4294967296 := hb y (by simp)
    simp only [val] at hv
    have e1 : x = y := by omega
    have e2 : val r = val s := by omega
    subst e1
    rw [val_inj (fun z hz => ha z (by simp [hz])) (fun z hz => hb z (by simp [hz])) (by simpa using hl) e2]

theorem norm_nil : Norm [] := by simp [Norm]
theorem norm_pos {l : List Nat} (hn : Norm l) (hne : l ≠ []) : W (l.length - 1) ≤ val l := by
  have e : l = l.dropLast ++ [l.getLast hne] := (List.dropLast_concat_getLast hne).symm
  have h0 : l.getLast hne ≠ 0 := by
    intro h; apply hn; rw [List.getLast?_eq_some_getLast hne, h]
  rw [e, val_snoc]
  have hl : l.dropLast.length = l.length - 1 := List.length_dropLast
  rw [← e, hl]
  have : W (l.length - 1) * 1 ≤ W (l.length - 1) * l.getLast hne := Nat.mul_le_mul_left _ (by omega)
  omega
theorem norm_val_pos {l : List Nat} (hn : Norm l) (hne : l ≠ []) : 0 < val l := Nat.lt_of_lt_of_le (W_pos _) (norm_pos hn hne)
theorem norm_zero {l : List Nat} (hn : Norm l) : val l = 0 ↔ l = [] := by
  constructor
  · intro h; by_cases hne : l = []
    · exact hne
    · have := norm_val_pos hn hne; omega
  · rintro rfl; rfl
/-- A normal list that is longer has the greater value. -/
theorem norm_len_lt {a b : List Nat} (ha : Bd a) (hb : Norm b) (h : a.length < b.length) : val a < val b := by
  have hne : b ≠ [] := by intro e; subst e; simp at h
  have h1 := val_lt ha
  have h2 := norm_pos hb hne
  have h3 : W a.length ≤ W (b.length - 1) := W_mono (by omega)
  omega
theorem norm_inj {a b : List Nat} (ha : Bd a) (hb : Bd b) (na : Norm a) (nb : Norm b) (h : val a = val b) : a = b := by
  apply val_inj ha hb _ h
  rcases Nat.lt_trichotomy a.length b.length with h1 | h1 | h1
  · have := norm_len_lt ha nb h1; omega
  · exact h1
  · have := norm_len_lt hb na h1; omega

/-- What is cut off a list above place k are zeros. -/
theorem val_take_zeros {l : List Nat} {k : Nat} (h : ∀ j, k ≤ j → l.getD j 0 = 0) : val (l.take k) = val l := by
  by_cases hk : k ≤ l.length
  · rw [val_take_drop l k hk]
    have : l.drop k = List.replicate (l.length - k) 0 := by
      apply List.ext_getElem
      · simp
      · intro i h1 h2
        simp only [List.getElem_drop, List.getElem_replicate]
        have hh := h (k + i) (by omega)
        rw [List.getD_eq_getElem?_getD, List.getElem?_eq_getElem (by simp at h1; omega)] at hh
        exact hh
    rw [this, val_replicate]; simp
  · rw [List.take_of_length_le (by omega)]
theorem norm_take {l : List Nat} {k : Nat} (hk : k ≤ l.length) (h : k = 0 ∨ l.getD (k - 1) 0 ≠ 0) : Norm (l.take k) := by
  rcases Nat.eq_zero_or_pos k with rfl | hp
  · simp [Norm]
  · rcases h with h | h
    · omega
    · unfold Norm
      rw [List.getLast?_eq_getElem?, List.length_take, Nat.min_eq_left hk, List.getElem?_take, if_pos (by omega)]
      intro e
      apply h
      rw [List.getD_eq_getElem?_getD, e]; rfl

/-- The comparison as Go's cmp.Compare tells it. -/
def cmpN (a b : Nat) : Int := if a < b then -1 else if a = b then 0 else 1
theorem cmpN_self (a : Nat) : cmpN a a = 0 := by simp [cmpN]
theorem cmpN_lt {a b : Nat} (h : a < b) : cmpN a b = -1 := by simp [cmpN, h]
theorem cmpN_gt {a b : Nat} (h : b < a) : cmpN a b = 1 := by unfold cmpN; rw [if_neg (by omega), if_neg (by omega)]

/-- Lists of one length that agree above place k and part at k compare as they do at k. -/
theorem val_lt_of_top {a b : List Nat} (ha : Bd a) {k : Nat} (hka : k < a.length) (hkb : k < b.length) (hl : a.length = b.length)
    (hd : a.drop (k + 1) = b.drop (k + 1)) (h : a[k] < b[k]) : val a < val b := by
  rw [val_take_drop a (k + 1) (by omega), val_take_drop b (k + 1) (by omega), hd, val_take_succ a hka, val_take_succ b hkb]
  have h1 := val_lt (ha.take k)
  rw [List.length_take, Nat.min_eq_left (by omega)] at h1
  have h2 : W k * (a[k] + 1) ≤ W k * b[k] := Nat.mul_le_mul_left _ (by omega)
  rw [Nat.mul_add] at h2
  omega

theorem val_set_take (O : List Nat) {k : Nat} (s : Nat) (hk : k < O.length) : val ((O.set k s).take (k + 1)) = val (O.take k) + W k * s := by
  have e : (O.set k s).take (k + 1) = O.take k ++ [s] := by
    rw [List.take_succ_eq_append_getElem (by simpa using hk), List.getElem_set_self, List.take_set_of_le (Nat.le_refl _)]
  rw [e, val_snoc, List.length_take, Nat.min_eq_left (by omega)]
theorem val_take_get (l : List Nat) {k x : Nat} (h : l[k]? = some x) : val (l.take (k + 1)) = val (l.take k) + W k * x := by
  obtain ⟨hk, rfl⟩ := List.getElem?_eq_some_iff.1 h
  exact val_take_succ l hk
theorem val_take_all {l : List Nat} {n : Nat} (h : l.length = n) : val (l.take n) = val l := by rw [List.take_of_length_le (by omega)]
/-- A normal list is as short as its value allows. -/
theorem norm_len_le {l : List Nat} (hn : Norm l) {k : Nat} (h : val l < W k) : l.length ≤ k := by
  rcases Nat.lt_or_ge k l.length with h1 | h1
  · have hne : l ≠ [] := by rintro rfl; simp at h1
    have := norm_pos hn hne
    have h2 : W k ≤ W (l.length - 1) := W_mono (by omega)
    omega
  · exact h1
/-- One column of a sum. -/
theorem add_col {k s r r' x y A B O : Nat} (h : O + W k * r = A + B) (hs : s + 4294967296 * r' = x + y + r) :
    (O + W k * s) + W (k + 1) * r' = (A + W k * x) + (B + W k * y) := by
  rw [W_succ, Nat.mul_comm 4294967296, Nat.mul_assoc]
  have h2 : W k * s + W k * (4294967296 * r') = W k * x + W k * y + W k * r := by
    rw [← Nat.mul_add, hs, Nat.mul_add, Nat.mul_add]
  omega
/-- One column of a difference. -/
theorem sub_col {k s r r' x y A B O : Nat} (h1 : O + B = A + W k * r) (hs : s + y + r = x + 4294967296 * r') :
    (O + W k * s) + (B + W k * y) = (A + W k * x) + W (k + 1) * r' := by
  rw [W_succ, Nat.mul_comm 4294967296, Nat.mul_assoc]
  have h2 : W k * s + W k * y + W k * r = W k * x + W k * (4294967296 * r') := by
    rw [← Nat.mul_add, ← Nat.mul_add, hs, Nat.mul_add]
  omega

/-- One column of a product that is added. -/
theorem mul_col {k s r r' x y l P V B : Nat} (h : P + W k * r = V + x * B) (hs : s + 4294967296 * r' = x * y + l + r) :
    (P + W k * s) + W (k + 1) * r' = (V + W k * l) + x * (B + W k * y) := by
  rw [W_succ, Nat.mul_comm 4294967296, Nat.mul_assoc]
  have h2 : W k * s + W k * (4294967296 * r') = W k * (x * y) + W k * l + W k * r := by
    rw [← Nat.mul_add, hs, Nat.mul_add, Nat.mul_add]
  rw [Nat.mul_add x, Nat.mul_left_comm x (W k) y]
  omega
theorem drop_get {O : List Nat} {q z : Nat} (h : O[q]? = some z) : O.drop q = z :: O.drop (q + 1) := by
  obtain ⟨hq, rfl⟩ := List.getElem?_eq_some_iff.1 h
  exact List.drop_eq_getElem_cons hq
/-- A store in the middle: behind what lies before, the first of what lies behind. -/
theorem set_mid (a P r : List Nat) (z s : Nat) : (a ++ P ++ z :: r).set (a.length + P.length) s = a ++ (P ++ [s]) ++ r := by
  rw [List.set_append_right _ _ (by simp)]
  simp
theorem get_mid (a P r : List Nat) (z : Nat) : (a ++ P ++ z :: r)[a.length + P.length]? = some z := by
  rw [List.getElem?_append_right (by simp)]
  simp
/-- A product of two limbs, with two more added, fits two limbs. -/
theorem mul_le_two {x y : Nat} (hx : x < 4294967296) (hy : y < 4294967296) : x * y ≤ 18446744065119617025 := by
  have : x * y ≤ 4294967295 * 4294967295 := Nat.mul_le_mul (by omega) (by omega)
  omega

end Go.Proofs.YtfnibkodccfocaaGreat
