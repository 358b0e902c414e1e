/- Systems of bays and boards: errors, unit, parts, tables and ways as plain functions. No program is named here. -/
import Derived.Test.YtkcbfkflkepfeaaCells
namespace Go.Proofs.Ytkcbfkflkepfeaa
open Go.RowKit

structure Sys where
  bays : List Int
  boards : List Int
  width : Int
  gap : Int
  lift : Int

/-- A length that a part may have; lists that ascend, or do not ascend. -/
def ok1 (z : Int) : Bool := decide (1 ≤ z ∧ z ≤ 10000)
def rise (l : List Int) : Bool := decide (∀ j, j < l.length - 1 → l.getD j 0 < l.getD (j + 1) 0)
def fall (l : List Int) : Bool := decide (∀ j, j < l.length - 1 → l.getD (j + 1) 0 ≤ l.getD j 0)
theorem ok1_iff {z : Int} : ok1 z = true ↔ 1 ≤ z ∧ z ≤ 10000 := by unfold ok1; simp
theorem ok1_false {z : Int} (h : z < 1 ∨ 10000 < z) : ok1 z = false := by unfold ok1; simp; omega
theorem getD_of {l : List Int} {k : Nat} {x : Int} (h : l[k]? = some x) : l.getD k 0 = x := by rw [List.getD_eq_getElem?_getD, h]; rfl
theorem rise_iff {l : List Int} : rise l = true ↔ ∀ j, j < l.length - 1 → l.getD j 0 < l.getD (j + 1) 0 := by unfold rise; simp
theorem fall_iff {l : List Int} : fall l = true ↔ ∀ j, j < l.length - 1 → l.getD (j + 1) 0 ≤ l.getD j 0 := by unfold fall; simp
theorem rise_not {l : List Int} {j : Nat} (hj : j < l.length - 1) (h : l.getD (j + 1) 0 ≤ l.getD j 0) : rise l = false := by
  rcases hr : rise l
  · rfl
  · have := rise_iff.1 hr j hj; omega
theorem fall_not {l : List Int} {j : Nat} (hj : j < l.length - 1) (h : l.getD j 0 < l.getD (j + 1) 0) : fall l = false := by
  rcases hr : fall l
  · rfl
  · have := fall_iff.1 hr j hj; omega

def Sys.all (s : Sys) : List Int := s.bays ++ s.boards
def Sys.rest (s : Sys) : Bool := decide (1 ≤ s.width ∧ s.width ≤ 5000 ∧ 0 ≤ s.gap ∧ s.gap ≤ 5000 ∧ 1 ≤ s.lift ∧ s.lift ≤ 10000)
def listsErr (a b : List Int) : Int := if (a.all ok1 && b.all ok1) = false then 2 else if (rise a && rise b) = false then 10 else 0
def Sys.err (s : Sys) : Int :=
  if s.bays.length < 1 ∨ 8 < s.bays.length ∨ 8 < s.boards.length then 11 else if listsErr s.bays s.boards ≠ 0 then listsErr s.bays s.boards else if s.rest then 0 else 2

/-- The greatest common divisor. -/
def gI (a b : Int) : Int := (Nat.gcd a.toNat b.toNat : Nat)
def gcdTo (l : List Int) : Int := l.foldl gI 0
def Sys.unit (s : Sys) : Int := gcdTo s.all
def Sys.reg (s : Sys) : Int := s.bays.getD (s.bays.length - 1) 0

theorem gI_nat (a b : Nat) : gI a b = ((Nat.gcd a b : Nat) : Int) := by simp [gI]
theorem gcd_step (a b : Nat) : Nat.gcd b (a % b) = Nat.gcd a b := by rw [Nat.gcd_comm a b, Nat.gcd_rec b a, Nat.gcd_comm]
theorem gI_nonneg (a b : Int) : 0 ≤ gI a b := by unfold gI; omega
theorem fold_gcd_nonneg (l : List Int) (d : Int) (h : 0 ≤ d) : 0 ≤ l.foldl gI d := by
  induction l generalizing d with
  | nil => exact h
  | cons x l ih => exact ih _ (gI_nonneg _ _)
theorem gcdTo_snoc (l : List Int) (x : Int) : gcdTo (l ++ [x]) = gI (gcdTo l) x := by simp [gcdTo]
theorem gcdTo_take {l : List Int} {k : Nat} {x : Int} (h : l[k]? = some x) : gcdTo (l.take (k + 1)) = gI (gcdTo (l.take k)) x := by
  obtain ⟨hk, rfl⟩ := List.getElem?_eq_some_iff.1 h
  rw [List.take_succ_eq_append_getElem hk, gcdTo_snoc]
theorem gI_le {a b : Int} (hb : 1 ≤ b) : 1 ≤ gI a b ∧ gI a b ≤ b := by
  have hp : 0 < b.toNat := by omega
  have h1 := Nat.gcd_pos_of_pos_right a.toNat hp
  have h2 := Nat.le_of_dvd hp (Nat.gcd_dvd_right a.toNat b.toNat)
  unfold gI
  omega
theorem fold_gcd_bd (l : List Int) (hl : l.all ok1 = true) (d : Int) (hd : 0 ≤ d) (h1 : 1 ≤ d ∨ l ≠ []) (h2 : d ≤ 10000) : 1 ≤ l.foldl gI d ∧ l.foldl gI d ≤ 10000 := by
  induction l generalizing d with
  | nil =>
    rcases h1 with h1 | h1
    · exact ⟨h1, h2⟩
    · exact absurd rfl h1
  | cons x l ih =>
    simp only [List.all_cons, Bool.and_eq_true] at hl
    have hx := ok1_iff.1 hl.1
    have := gI_le (a := d) (b := x) hx.1
    exact ih hl.2 _ (by omega) (.inl this.1) (by omega)
theorem take_gcd_bd {l : List Int} (hl : l.all ok1 = true) (k : Nat) : 0 ≤ gcdTo (l.take k) ∧ gcdTo (l.take k) ≤ 10000 := by
  have h0 : 0 ≤ gcdTo (l.take k) := fold_gcd_nonneg _ _ (by omega)
  refine ⟨h0, ?_⟩
  by_cases he : l.take k = []
  · rw [he]; simp [gcdTo]
  · exact (fold_gcd_bd (l.take k) (List.all_eq_true.2 fun x hx => List.all_eq_true.1 hl x (List.mem_of_mem_take hx)) 0 (by omega) (.inr he) (by omega)).2

/-- A valid system. -/
structure Sys.Ok (s : Sys) : Prop where
  some_ : 1 ≤ s.bays.length
  bays : s.bays.length ≤ 8
  boards : s.boards.length ≤ 8
  ok : s.all.all ok1 = true
  riseA : rise s.bays = true
  riseB : rise s.boards = true
theorem Sys.ok_of {s : Sys} (h : s.err = 0) : s.Ok := by
  unfold Sys.err at h
  split at h
  · cases h
  · rename_i h0
    split at h
    · rename_i h1; exact absurd h h1
    · rename_i h1
      have h1 : listsErr s.bays s.boards = 0 := by simpa using h1
      unfold listsErr at h1
      split at h1
      · cases h1
      · rename_i h2
        split at h1
        · cases h1
        · rename_i h3
          simp only [Bool.not_eq_false, Bool.and_eq_true] at h2 h3
          exact ⟨by omega, by omega, by omega, by unfold Sys.all; rw [List.all_append, h2.1, h2.2]; rfl, h3.1, h3.2⟩
theorem Sys.Ok.unit_bd {s : Sys} (h : s.Ok) : 1 ≤ s.unit ∧ s.unit ≤ 10000 := by
  refine fold_gcd_bd _ h.ok 0 (by omega) (.inr ?_) (by omega)
  intro e
  have := h.some_
  unfold Sys.all at e
  simp only [List.append_eq_nil_iff] at e
  rw [e.1] at this
  simp at this

/-- The error of a length, with that of the system. -/
def Sys.lenErr (s : Sys) (n : Int) : Int := if n < 0 then 2 else if 4000 * s.unit < n then 8 else 0
def Sys.bothErr (s : Sys) (n : Int) : Int := if s.err ≠ 0 then s.err else s.lenErr n

/-- A part of a system: its length, its units, the code of its cost. -/
structure Part where
  len : Int
  units : Int
  code : Int
  board : Bool
def Sys.bay (s : Sys) (n : Int) : Part := ⟨n, n.tdiv s.unit, if n = s.reg then 1 else 10001, false⟩
def Sys.brd (s : Sys) (n : Int) : Part := ⟨n, n.tdiv s.unit, 10000, true⟩
def Sys.parts (s : Sys) : List Part := s.bays.map s.bay ++ s.boards.map s.brd

theorem gcd_dvd_fold (l : List Int) (d : Int) (hd : 0 ≤ d) (hl : ∀ x ∈ l, 0 ≤ x) : l.foldl gI d ∣ d ∧ ∀ x ∈ l, l.foldl gI d ∣ x := by
  induction l generalizing d with
  | nil => exact ⟨Int.dvd_refl _, by simp⟩
  | cons y l ih =>
    have hy := hl y (by simp)
    obtain ⟨h1, h2⟩ := ih (gI d y) (gI_nonneg _ _) (fun x hx => hl x (by simp [hx]))
    have ha : gI d y ∣ d := by unfold gI; have := Nat.gcd_dvd_left d.toNat y.toNat; have := Int.ofNat_dvd.2 this; rwa [Int.toNat_of_nonneg hd] at this
    have hb : gI d y ∣ y := by unfold gI; have := Nat.gcd_dvd_right d.toNat y.toNat; have := Int.ofNat_dvd.2 this; rwa [Int.toNat_of_nonneg hy] at this
    refine ⟨Int.dvd_trans h1 ha, fun x hx => ?_⟩
    rcases List.mem_cons.1 hx with rfl | hx
    · exact Int.dvd_trans h1 hb
    · exact h2 x hx
theorem Sys.Ok.dvd {s : Sys} (h : s.Ok) {x : Int} (hx : x ∈ s.all) : s.unit ∣ x := by
  refine (gcd_dvd_fold s.all 0 (by omega) ?_).2 x hx
  intro y hy
  have := ok1_iff.1 (List.all_eq_true.1 h.ok y hy)
  omega
theorem Sys.Ok.units {s : Sys} (h : s.Ok) {x : Int} (hx : x ∈ s.all) : 1 ≤ x.tdiv s.unit ∧ x.tdiv s.unit ≤ 10000 := by
  have hu := h.unit_bd
  have hb := ok1_iff.1 (List.all_eq_true.1 h.ok x hx)
  obtain ⟨q, rfl⟩ := h.dvd hx
  rw [Int.mul_tdiv_cancel_left _ (by omega)]
  have h1 : 1 ≤ q := by
    rcases Int.lt_or_le q 1 with hq | hq
    · have := Int.mul_le_mul_of_nonneg_left (show q ≤ 0 by omega) (show 0 ≤ s.unit by omega)
      omega
    · exact hq
  have h2 := Int.mul_le_mul_of_nonneg_right (show 1 ≤ s.unit from hu.1) (show 0 ≤ q by omega)
  omega
def Part.Fine (p : Part) : Prop := (1 ≤ p.units ∧ p.units ≤ 10000) ∧ 1 ≤ p.code ∧ p.code ≤ 10001
theorem Sys.Ok.fine {s : Sys} (h : s.Ok) : ∀ p ∈ s.parts, p.Fine := by
  intro p hp
  unfold Sys.parts at hp
  rcases List.mem_append.1 hp with hp | hp
  · obtain ⟨x, hx, rfl⟩ := List.mem_map.1 hp
    refine ⟨h.units (List.mem_append_left _ hx), ?_⟩
    simp only [Sys.bay]
    split <;> omega
  · obtain ⟨x, hx, rfl⟩ := List.mem_map.1 hp
    refine ⟨h.units (List.mem_append_right _ hx), ?_⟩
    simp only [Sys.brd]
    omega
theorem Sys.Ok.parts_len {s : Sys} (h : s.Ok) : 1 ≤ s.parts.length ∧ s.parts.length ≤ 16 := by
  have := h.some_; have := h.bays; have := h.boards
  unfold Sys.parts
  simp only [List.length_append, List.length_map]
  omega

/-- The table of least codes. -/
def codeAt (T : List Int) (p : Part) (k : Nat) : Int :=
  if (k : Int) < p.units then -1 else if T.getD (k - p.units.toNat) 0 = -1 then -1 else T.getD (k - p.units.toNat) 0 + p.code
def pick (least c : Int) : Int := if c ≠ -1 ∧ (least = -1 ∨ c < least) then c else least
def bestOf (ps : List Part) (T : List Int) (k : Nat) : Int := ps.foldl (fun b p => pick b (codeAt T p k)) (-1)
def tab (ps : List Part) : Nat → List Int
  | 0 => [0]
  | k + 1 => tab ps k ++ [bestOf ps (tab ps k) (k + 1)]
theorem tab_length (ps : List Part) : ∀ k, (tab ps k).length = k + 1
  | 0 => rfl
  | k + 1 => by simp [tab, tab_length ps k]
/-- All entries of a row are codes up to a bound. -/
def Codes (T : List Int) (m : Int) : Prop := ∀ x ∈ T, -1 ≤ x ∧ x ≤ m
theorem Codes.at_ {T : List Int} {m : Int} (h : Codes T m) (hm : 0 ≤ m) (i : Nat) : -1 ≤ T.getD i 0 ∧ T.getD i 0 ≤ m := by
  rw [List.getD_eq_getElem?_getD]
  rcases hi : T[i]? with _ | x
  · simp; omega
  · exact h x (List.mem_of_getElem? hi)
theorem codeAt_bd {T : List Int} {m : Int} (h : Codes T m) (hm : 0 ≤ m) {p : Part} (hp : p.Fine) (k : Nat) : -1 ≤ codeAt T p k ∧ codeAt T p k ≤ m + 10001 := by
  have := h.at_ hm (k - p.units.toNat)
  obtain ⟨-, h1, h2⟩ := hp
  unfold codeAt
  split
  · omega
  · split <;> omega
theorem pick_bd {a b m : Int} (ha : -1 ≤ a ∧ a ≤ m) (hb : -1 ≤ b ∧ b ≤ m) : -1 ≤ pick a b ∧ pick a b ≤ m := by unfold pick; split <;> omega
theorem fold_pick_bd {T : List Int} {m : Int} (h : Codes T m) (hm : 0 ≤ m) (k : Nat) : ∀ (ps : List Part) (b : Int), (∀ p ∈ ps, p.Fine) → (-1 ≤ b ∧ b ≤ m + 10001) → -1 ≤ ps.foldl (fun b p => pick b (codeAt T p k)) b ∧ ps.foldl (fun b p => pick b (codeAt T p k)) b ≤ m + 10001
  | [], b, _, hb => hb
  | p :: ps, b, hf, hb => fold_pick_bd h hm k ps _ (fun q hq => hf q (by simp [hq])) (pick_bd hb (codeAt_bd h hm (hf p (by simp)) k))
theorem tab_codes {ps : List Part} (hf : ∀ p ∈ ps, p.Fine) : ∀ k, Codes (tab ps k) (10001 * k)
  | 0 => by intro x hx; simp [tab] at hx; subst hx; omega
  | k + 1 => by
    have ih := tab_codes hf k
    intro x hx
    simp only [tab, List.mem_append, List.mem_singleton] at hx
    rcases hx with hx | rfl
    · have := ih x hx; omega
    · have := fold_pick_bd ih (by omega) (k + 1) ps (-1) hf (by omega)
      unfold bestOf
      omega

/-- The numbers of ways, part after part. -/
def wayStep (c : List Int) (u k : Nat) : List Int := c.set k (min (c.getD k 0 + c.getD (k - u) 0) 1000001)
def wayTo (c : List Int) (u : Nat) : Nat → List Int
  | 0 => c
  | j + 1 => wayStep (wayTo c u j) u (u + j)
def wayPart (c : List Int) (u : Nat) : List Int := wayTo c u (c.length - u)
def waysOf (ps : List Part) (c : List Int) : List Int := ps.foldl (fun c p => wayPart c p.units.toNat) c
def ways0 (n : Nat) : List Int := 1 :: List.replicate n 0
theorem wayTo_length (c : List Int) (u : Nat) : ∀ j, (wayTo c u j).length = c.length
  | 0 => rfl
  | j + 1 => by simp [wayTo, wayStep, wayTo_length c u j]
theorem waysOf_length : ∀ (ps : List Part) (c : List Int), (waysOf ps c).length = c.length
  | [], c => rfl
  | p :: ps, c => by
    have := waysOf_length ps (wayPart c p.units.toNat)
    simp only [waysOf, List.foldl_cons] at this ⊢
    rw [this]
    exact wayTo_length _ _ _
def Cnt (c : List Int) : Prop := ∀ x ∈ c, 0 ≤ x ∧ x ≤ 1000001
theorem Cnt.at_ {c : List Int} (h : Cnt c) (i : Nat) : 0 ≤ c.getD i 0 ∧ c.getD i 0 ≤ 1000001 := by
  rw [List.getD_eq_getElem?_getD]
  rcases hi : c[i]? with _ | x
  · simp
  · exact h x (List.mem_of_getElem? hi)
theorem Cnt.step {c : List Int} (h : Cnt c) (u k : Nat) : Cnt (wayStep c u k) := by
  intro x hx
  have h1 := h.at_ k
  have h2 := h.at_ (k - u)
  rcases List.mem_or_eq_of_mem_set hx with hx | rfl
  · exact h x hx
  · omega
theorem Cnt.to {c : List Int} (h : Cnt c) (u : Nat) : ∀ j, Cnt (wayTo c u j)
  | 0 => h
  | j + 1 => (h.to u j).step _ _
theorem Cnt.waysOf : ∀ (ps : List Part) {c : List Int}, Cnt c → Cnt (waysOf ps c)
  | [], _, h => h
  | p :: ps, _, h => Cnt.waysOf ps (h.to p.units.toNat _)
theorem Cnt.zero (n : Nat) : Cnt (ways0 n) := by
  intro x hx
  simp only [ways0, List.mem_cons, List.mem_replicate] at hx
  omega
def waysN (ps : List Part) (n : Nat) : Int := (waysOf ps (ways0 n)).getD n 0
def Sys.ways (s : Sys) (n : Int) : Int × Int :=
  if n.tmod s.unit ≠ 0 then (0, 0) else if waysN s.parts (n.tdiv s.unit).toNat ≤ 1000000 then (waysN s.parts (n.tdiv s.unit).toNat, 0) else (0, 8)

end Go.Proofs.Ytkcbfkflkepfeaa
