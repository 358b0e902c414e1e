/- Several texts in one. -/
import Derived.Test.YtfjcbmdeaiaeiaaGreatWord
import Derived.Test.YtfjcbmdeaiaeiaaGreatShelf
import Derived.Test.YtfjcbmdeaiaeiaaGreatFracE
import Derived.Test.YtfjcbmdeaiaeiaaGreatLine
import Derived.Test.YtfjcbmdeaiaeiaaGreatRefA
import Derived.Test.YtfjcbmdeaiaeiaaGreatRows
import Derived.Test.YtfjcbmdeaiaeiaaGreatMem
import Derived.Below
import Derived.ProofKit
import Derived.Test.YtfjcbmdeaiaeiaaGreatIntH
import Derived.Lib.SmallJoins
import Derived.Deep.Slices
import Derived.Deep.Fields
import Derived.OpenShut
/- Roots, the program: squareFits, and the greatest number whose square is not too much. -/
namespace Go.Proofs.YtfjcbmdeaiaeiaaGreat
open Go.RowKit

theorem or_pow (k i : Nat) (hk : k < 4503599627370496) (hi : i < 52) (hd : k % 2 ^ (i + 1) = 0) : bits .or .u64 (k : Int) ((2 ^ i : Nat) : Int) = ((k + 2 ^ i : Nat) : Int) := by
  have h1 : 2 ^ i < 2 ^ 52 := Nat.pow_lt_pow_right (by omega) hi
  have h2 : (2 : Nat) ^ 52 = 4503599627370496 := by decide
  rw [u64_or_nat _ _ (by omega) (by omega), nat_join (i + 1) _ _ hd (Nat.pow_lt_pow_right (by omega) (by omega))]
/-- The search for the greatest number whose square is not too much, behind some bits. -/
structure Srch (N j k : Nat) : Prop where
  mul : k % 2 ^ j = 0
  le : k * k ≤ N
  gt : N < (k + 2 ^ j) * (k + 2 ^ j)
  small : k + 2 ^ j ≤ 4503599627370496
theorem Srch.start {N : Nat} (h : N < 4503599627370496 * 4503599627370496) : Srch N 52 0 :=
  ⟨by simp, by simp, by simpa using h, by decide⟩
theorem Srch.more {N i k : Nat} (h : Srch N (i + 1) k) (hf : (k + 2 ^ i) * (k + 2 ^ i) ≤ N) : Srch N i (k + 2 ^ i) := by
  have e : 2 ^ (i + 1) = 2 ^ i + 2 ^ i := by rw [Nat.pow_succ]; omega
  have h1 := h.mul
  have h3 := h.gt
  have h4 := h.small
  rw [e] at h1 h3 h4
  refine ⟨?_, hf, by rwa [← Nat.add_assoc] at h3, by omega⟩
  have h2 : 2 ^ i ∣ k := Nat.dvd_trans (⟨2, by omega⟩ : 2 ^ i ∣ 2 ^ i + 2 ^ i) (Nat.dvd_of_mod_eq_zero h1)
  exact Nat.mod_eq_zero_of_dvd (Nat.dvd_add h2 (Nat.dvd_refl _))
theorem Srch.same {N i k : Nat} (h : Srch N (i + 1) k) (hf : ¬ (k + 2 ^ i) * (k + 2 ^ i) ≤ N) : Srch N i k := by
  have e : 2 ^ (i + 1) = 2 ^ i + 2 ^ i := by rw [Nat.pow_succ]; omega
  have h1 := h.mul
  have h4 := h.small
  rw [e] at h1 h4
  have h2 : 2 ^ i ∣ k := Nat.dvd_trans (⟨2, by omega⟩ : 2 ^ i ∣ 2 ^ i + 2 ^ i) (Nat.dvd_of_mod_eq_zero h1)
  exact ⟨Nat.mod_eq_zero_of_dvd h2, h.le, by omega, by omega⟩
/-- The greatest number whose square is at most N. -/
def IsRoot (N k : Nat) : Prop := k * k ≤ N ∧ N < (k + 1) * (k + 1)
theorem Srch.end_ {N k : Nat} (h : Srch N 0 k) : IsRoot N k := ⟨h.le, by simpa using h.gt⟩
theorem isRoot_one {N a b : Nat} (ha : IsRoot N a) (hb : IsRoot N b) : a = b := by
  have key : ∀ {a b : Nat}, IsRoot N a → IsRoot N b → a ≤ b := by
    intro a b ha hb
    refine Nat.le_of_not_lt fun h => ?_
    have h1 : (b + 1) * (b + 1) ≤ a * a := Nat.mul_le_mul h h
    have := ha.1
    have := hb.2
    omega
  exact Nat.le_antisymm (key ha hb) (key hb ha)
set_option maxHeartbeats 1000000 in
theorem squareFits_any (k N : Nat) (hk : k < 18446744073709551616) (v : Bool) (hv : decide (k * k ≤ N) = v) (w : World) :
    Calls Tryz.prog 80 #[.int .u64 (k : Int), .int .u64 ((N / 18446744073709551616 : Nat) : Int), .int .u64 ((N % 18446744073709551616 : Nat) : Int)] w fun e w' => w = w' ∧ e = .returned (.bool v) := by
  have ML : Hid (∀ W, Calls Tryz.prog 79 #[.int .u64 (k : Int), .int .u64 (k : Int)] W fun e w' => e = .returned (.tuple #[.int .u64 ((k * k / 18446744073709551616 : Nat) : Int), .int .u64 ((k * k % 18446744073709551616 : Nat) : Int)]) ∧ w' = W) := Lib.hid fun W => Tryz.bits_Mul64 k k hk hk W
  obtain ⟨h, hh⟩ : ∃ h, k * k / 18446744073709551616 = h := ⟨_, rfl⟩
  obtain ⟨l, hl⟩ : ∃ l, k * k % 18446744073709551616 = l := ⟨_, rfl⟩
  obtain ⟨H, hH⟩ : ∃ H, N / 18446744073709551616 = H := ⟨_, rfl⟩
  obtain ⟨L, hL⟩ : ∃ L, N % 18446744073709551616 = L := ⟨_, rfl⟩
  rw [hh, hl] at ML
  rw [hH, hL]
  have e1 := Nat.div_add_mod (k * k) 18446744073709551616
  have e2 := Nat.div_add_mod N 18446744073709551616
  have l1 := Nat.mod_lt (k * k) (show 0 < 18446744073709551616 by decide)
  have l2 := Nat.mod_lt N (show 0 < 18446744073709551616 by decide)
  rw [hh, hl] at e1
  rw [hH, hL] at e2
  rw [hl] at l1
  rw [hL] at l2
  rcases Nat.lt_trichotomy h H with hc | hc | hc
  · obtain rfl : v = true := by rw [← hv]; exact decide_eq_true (by omega)
    have d1 : decide ((h : Int) < (H : Int)) = true := decide_eq_true (by omega)
    clear hv e1 e2 l1 l2 hh hl hH hL
    go_enter Tryz.func80, Tryz.ntmps80
    go_wp2_with (go_at_call 79; refine (ML.out _).mono ?_; rintro e w' ⟨rfl, rfl⟩)
    go_ret
    exact ⟨rfl, rfl⟩
  · subst hc
    obtain ⟨d2, hd2⟩ : ∃ d, decide (l ≤ L) = d := ⟨_, rfl⟩
    obtain rfl : v = d2 := by
      rw [← hv, ← hd2, Bool.eq_iff_iff, decide_eq_true_iff, decide_eq_true_iff]
      omega
    clear hv e1 e2 l1 l2 hh hl hH hL
    go_enter Tryz.func80, Tryz.ntmps80
    go_wp2_with (go_at_call 79; refine (ML.out _).mono ?_; rintro e w' ⟨rfl, rfl⟩)
    go_ret
    exact ⟨rfl, by simp⟩
  · obtain rfl : v = false := by rw [← hv]; exact decide_eq_false (by omega)
    have d1 : decide (h < H) = false := decide_eq_false (by omega)
    have d2 : ((h : Int) == (H : Int)) = false := by simp; omega
    have d3 : (h == H) = false := by simp; omega
    clear hv e1 e2 l1 l2 hh hl hH hL
    go_enter Tryz.func80, Tryz.ntmps80
    go_wp2_with (go_at_call 79; refine (ML.out _).mono ?_; rintro e w' ⟨rfl, rfl⟩)
    go_ret
    exact ⟨rfl, rfl⟩

end Go.Proofs.YtfjcbmdeaiaeiaaGreat

/- Roots: what the greatest root below comes to, as fractions; without a walk. -/
namespace Go.Proofs.YtfjcbmdeaiaeiaaGreat
open Go.RowKit

theorem root_times {k d : Nat} (hd : 0 < d) : Rat.divInt (k : Int) (d : Int) * ((d : Int) : Rat) = ((k : Int) : Rat) := rat_mul rfl (by omega)
theorem root_den {k d : Nat} (hd : 0 < d) : (Rat.divInt (k : Int) (d : Int) * ((d : Int) : Rat)).den = 1 := by
  rw [root_times hd]
  exact Rat.den_intCast _
theorem root_next {k d : Nat} : Rat.divInt (k : Int) (d : Int) + Rat.divInt 1 (d : Int) = Rat.divInt ((k + 1 : Nat) : Int) (d : Int) := by
  rw [Rat.divInt_eq_div, Rat.divInt_eq_div, Rat.divInt_eq_div]
  have : (((k + 1 : Nat) : Int) : Rat) = ((k : Int) : Rat) + ((1 : Int) : Rat) := by push_cast; rfl
  rw [this]
  grind
theorem sq_cross {k d n : Nat} (hd : 0 < d) : cmpQ (Rat.divInt (k : Int) (d : Int) * Rat.divInt (k : Int) (d : Int)) ((n : Int) : Rat) = cmpI ((k * k : Nat) : Int) ((n * (d * d) : Nat) : Int) := by
  have e1 : Rat.divInt ((k * k : Nat) : Int) ((d * d : Nat) : Int) = Rat.divInt (k : Int) (d : Int) * Rat.divInt (k : Int) (d : Int) := by
    rw [Rat.divInt_mul_divInt]
    push_cast
    rfl
  have e2 : Rat.divInt (n : Int) 1 = ((n : Int) : Rat) := by have q := Rat.num_divInt_den ((n : Int) : Rat); simpa using q
  have hdd : 0 < d * d := Nat.mul_pos hd hd
  have h := cmp_cross (p := ((k * k : Nat) : Int)) (q := ((d * d : Nat) : Int)) (r := (n : Int)) (s := 1) e1 e2 (by omega) (by omega)
  rw [← h]
  push_cast
  rw [Int.mul_one]
theorem root_le {n d k : Nat} (hd : 0 < d) (h : IsRoot (n * (d * d)) k) : cmpQ (Rat.divInt (k : Int) (d : Int) * Rat.divInt (k : Int) (d : Int)) ((n : Int) : Rat) ≤ 0 := by
  rw [sq_cross hd]
  have := h.1
  unfold cmpI
  split
  · omega
  · split <;> omega
theorem root_gt {n d k : Nat} (hd : 0 < d) (h : IsRoot (n * (d * d)) k) : cmpQ (Rat.divInt ((k + 1 : Nat) : Int) (d : Int) * Rat.divInt ((k + 1 : Nat) : Int) (d : Int)) ((n : Int) : Rat) = 1 := by
  rw [sq_cross hd]
  exact cmpI_gt (by exact_mod_cast h.2)
/-- The reference's search: no bit is or-ed, so no more is asked of k than its size; it begins one bit higher. -/
structure SrchR (N j k : Nat) : Prop where
  le : k * k ≤ N
  gt : N < (k + 2 ^ j) * (k + 2 ^ j)
  small : k + 2 ^ j ≤ 9007199254740992
theorem SrchR.start {N : Nat} (h : N < 4503599627370496 * 4503599627370496) : SrchR N 53 0 :=
  ⟨by simp, Nat.lt_of_lt_of_le h (by decide), by decide⟩
theorem SrchR.more {N i k : Nat} (h : SrchR N (i + 1) k) (hf : (k + 2 ^ i) * (k + 2 ^ i) ≤ N) : SrchR N i (k + 2 ^ i) := by
  have e : 2 ^ (i + 1) = 2 ^ i + 2 ^ i := by rw [Nat.pow_succ]; omega
  have h3 := h.gt
  have h4 := h.small
  rw [e] at h3 h4
  exact ⟨hf, by rwa [← Nat.add_assoc] at h3, by omega⟩
theorem SrchR.same {N i k : Nat} (h : SrchR N (i + 1) k) (hf : ¬ (k + 2 ^ i) * (k + 2 ^ i) ≤ N) : SrchR N i k := by
  have e : 2 ^ (i + 1) = 2 ^ i + 2 ^ i := by rw [Nat.pow_succ]; omega
  have h4 := h.small
  rw [e] at h4
  have hp := Nat.two_pow_pos i
  exact ⟨h.le, Nat.lt_of_not_le hf, by omega⟩
theorem SrchR.end_ {N k : Nat} (h : SrchR N 0 k) : IsRoot N k := ⟨h.le, by simpa using h.gt⟩
/-- The reference's test of a bit: it compares whole numbers. -/
theorem srch_test (N k : Nat) : decide (cmpI ((k : Int) * (k : Int)) (N : Int) ≤ 0) = decide (k * k ≤ N) := by
  have e : ((k * k : Nat) : Int) = (k : Int) * (k : Int) := by push_cast; rfl
  rw [← e]
  refine decide_eq_decide.2 ⟨fun h => ?_, fun h => ?_⟩
  · refine Nat.le_of_not_lt fun g => ?_
    rw [cmpI_gt (by exact_mod_cast g)] at h
    omega
  · unfold cmpI
    split
    · omega
    · split <;> omega
theorem W_2p : W 2 = 18446744073709551616 := by decide
theorem wholePH (m : Int) (w : World) (h1 : -9223372036854775808 ≤ m) (h2 : m ≤ 9223372036854775807) : Calls Tryz.prog 29 #[.int .i64 m] w (MakesRat (m : Rat) 2 w) :=
  (whole_any m w h1 h2).mono fun _ _ h => makesR_of h (by rw [W_2p]; simp; omega) (by rw [W_2p]; simp)

end Go.Proofs.YtfjcbmdeaiaeiaaGreat

/- A region that draws its order, walked along one line: two allocations that wait for nothing may come up anywhere between the calls. -/
namespace Go.Proofs.YtfjcbmdeaiaeiaaGreat
open Go Go.RowKit Go.Proofs.YtfjcbmdeaiaeiaaGreat.Sim

/-- A float: where it has come up, its block lies there as it was made. -/
def FloOk (D0 : Nat) (t : TypeId) (z : Array Value) (d : Bool) (v : Value) (w : World) : Prop := d = true → ∃ g, v = .pointer (some ⟨g, 0, none⟩) ∧ D0 ≤ g ∧ Bk w g t z
def LF (L : Array Bool) (iA iB : Nat) : Bool → Bool → Array Bool
  | false, false => L
  | true, false => L.setIfInBounds iA true
  | false, true => L.setIfInBounds iB true
  | true, true => (L.setIfInBounds iA true).setIfInBounds iB true
def nF (n : Nat) : Bool → Bool → Nat
  | false, false => n + 2
  | true, true => n
  | _, _ => n + 1
def FloAt (S : World → Prop) (D0 : Nat) (t : TypeId) (z : Array Value) (w0 : World) (dA dB : Bool) (vA vB : Value) (w : World) : Prop :=
  Below w0.heap.size w0 w ∧ FloOk D0 t z dA vA w ∧ FloOk D0 t z dB vB w ∧ (dA = true → dB = true → vA ≠ vB) ∧ S w
/-- From here on: whatever has come up of the two. -/
def FloT (P : Program) (ops : Array Oper) (Q : Exit → Act → World → Prop) (S : World → Prop) (D : List Nat) (iA iB D0 : Nat) (t : TypeId) (z : Array Value) (n : Nat) (L : Array Bool) (w0 : World) (fr : Value → Value → Act) : Prop :=
  ∀ dA dB vA vB w, FloAt S D0 t z w0 dA dB vA vB w → Goes P ops Q (SD S D) (nF n dA dB) (LF L iA iB dA dB) (fr vA vB) w
section
variable {P : Program} {ops : Array Oper} {Q : Exit → Act → World → Prop} {S : World → Prop} {D : List Nat} {iA iB D0 : Nat} {t : TypeId} {z : Array Value}
theorem FloOk.below {d : Bool} {v : Value} {w w' : World} (h : FloOk D0 t z d v w) (hb : Below w.heap.size w w') : FloOk D0 t z d v w' := fun hd => by
  obtain ⟨g, e, hg, hk⟩ := h hd
  exact ⟨g, e, hg, hk.below hb hk.lt⟩
theorem FloOk.no {v : Value} {w : World} : FloOk D0 t z false v w := fun h => by cases h
theorem FloOk.alloc {w : World} (h : D0 ≤ w.heap.size) : FloOk D0 t z true (.pointer (some ⟨w.heap.size, 0, none⟩)) (w.alloc (.cells z t)) := fun _ => ⟨_, rfl, h, Bk.alloc_ _ _ _⟩
theorem FloOk.ne {v : Value} {w : World} (h : FloOk D0 t z true v w) : v ≠ .pointer (some ⟨w.heap.size, 0, none⟩) := by
  obtain ⟨g, rfl, -, hk⟩ := h rfl
  have := hk.lt
  intro e
  simp at e
/-- An allocation comes up. -/
theorem wpOp_alloc {i : Nat} {oi : Oper} {a : Act} {w : World} {K : Act → World → Prop} (hi : ops[i]? = some oi) (hg : oi.guard = none)
    (hal : ∀ (a : Act) w, (execOp a.eval oi).run P w = .ok (.value (.pointer (some ⟨w.heap.size, 0, none⟩))) (w.alloc (.cells z t)))
    (h : K (a.put oi.dst (.pointer (some ⟨w.heap.size, 0, none⟩))) (w.alloc (.cells z t))) : wpOp P ops Q i K a w := by
  unfold wpOp
  rw [hi]
  dsimp only
  rw [if_pos (by simp [Region.wanted, hg])]
  left
  unfold Oper.wp
  rw [hal]
  exact h
theorem below_alloc1 (w : World) (o : Obj) : Below w.heap.size w (w.alloc o) := (Below.refl _ w).alloc (Nat.le_refl _) o
theorem flo_all {c : List Nat} {oA oB : Oper} {n : Nat} {L : Array Bool} {w0 : World} {fr : Value → Value → Act} (hA : ops[iA]? = some oA) (gA : oA.guard = none) (hB : ops[iB]? = some oB) (gB : oB.guard = none)
    (alA : ∀ (a : Act) w, (execOp a.eval oA).run P w = .ok (.value (.pointer (some ⟨w.heap.size, 0, none⟩))) (w.alloc (.cells z t)))
    (alB : ∀ (a : Act) w, (execOp a.eval oB).run P w = .ok (.value (.pointer (some ⟨w.heap.size, 0, none⟩))) (w.alloc (.cells z t)))
    (pA : ∀ vA vB v, (fr vA vB).put oA.dst v = fr v vB) (pB : ∀ vA vB v, (fr vA vB).put oB.dst v = fr vA v)
    (hS : ∀ w o, S w → S (w.alloc o)) (hD : D0 ≤ w0.heap.size) (hAB : iA ≠ iB)
    (r00 : Region.ready .any ops (LF L iA iB false false) = c ++ [iA, iB]) (r10 : Region.ready .any ops (LF L iA iB true false) = c ++ [iB]) (r01 : Region.ready .any ops (LF L iA iB false true) = c ++ [iA])
    (h11 : ∀ vA vB w, FloAt S D0 t z w0 true true vA vB w → Goes P ops Q (SD S D) n (LF L iA iB true true) (fr vA vB) w)
    (hc : ∀ j, j ∈ c → ∀ dA dB vA vB w, FloAt S D0 t z w0 dA dB vA vB w → ∀ m, nF n dA dB = m + 1 → wpOp P ops Q j (fun a' w' => SD S D ((LF L iA iB dA dB).setIfInBounds j true) w' ∧ Goes P ops Q (SD S D) m ((LF L iA iB dA dB).setIfInBounds j true) a' w') (fr vA vB) w) :
    FloT P ops Q S D iA iB D0 t z n L w0 fr := by
  have h10 : ∀ vA vB w, FloAt S D0 t z w0 true false vA vB w → Goes P ops Q (SD S D) (n + 1) (LF L iA iB true false) (fr vA vB) w := by
    intro vA vB w h
    refine Goes.all r10 (by simp) fun j hj => ?_
    rcases List.mem_append.1 hj with hj | hj
    · exact hc j hj true false vA vB w h n rfl
    · obtain rfl := List.mem_singleton.1 hj
      obtain ⟨hb, h1, h2, h3, hs⟩ := h
      refine wpOp_alloc hB gB alB ⟨.inr (hS _ _ hs), ?_⟩
      rw [pB]
      exact h11 _ _ _ ⟨hb.alloc hb.size _, h1.below (below_alloc1 _ _), FloOk.alloc (Nat.le_trans hD hb.size), fun _ _ => h1.ne, hS _ _ hs⟩
  have h01 : ∀ vA vB w, FloAt S D0 t z w0 false true vA vB w → Goes P ops Q (SD S D) (n + 1) (LF L iA iB false true) (fr vA vB) w := by
    intro vA vB w h
    refine Goes.all r01 (by simp) fun j hj => ?_
    rcases List.mem_append.1 hj with hj | hj
    · exact hc j hj false true vA vB w h n rfl
    · obtain rfl := List.mem_singleton.1 hj
      obtain ⟨hb, h1, h2, h3, hs⟩ := h
      refine wpOp_alloc hA gA alA ⟨.inr (hS _ _ hs), ?_⟩
      rw [pA]
      have e : (LF L j iB false true).setIfInBounds j true = LF L j iB true true := Array.setIfInBounds_comm _ _ (Ne.symm hAB)
      rw [e]
      exact h11 _ _ _ ⟨hb.alloc hb.size _, FloOk.alloc (Nat.le_trans hD hb.size), h2.below (below_alloc1 _ _), fun _ _ => h2.ne.symm, hS _ _ hs⟩
  have h00 : ∀ vA vB w, FloAt S D0 t z w0 false false vA vB w → Goes P ops Q (SD S D) (n + 2) (LF L iA iB false false) (fr vA vB) w := by
    intro vA vB w h
    refine Goes.all r00 (by simp) fun j hj => ?_
    rcases List.mem_append.1 hj with hj | hj
    · exact hc j hj false false vA vB w h (n + 1) rfl
    · obtain ⟨hb, h1, h2, h3, hs⟩ := h
      rcases List.mem_cons.1 hj with rfl | hj
      · refine wpOp_alloc hA gA alA ⟨.inr (hS _ _ hs), ?_⟩
        rw [pA]
        exact h10 _ _ _ ⟨hb.alloc hb.size _, FloOk.alloc (Nat.le_trans hD hb.size), FloOk.no, (fun _ h => by cases h), hS _ _ hs⟩
      · obtain rfl := List.mem_singleton.1 hj
        refine wpOp_alloc hB gB alB ⟨.inr (hS _ _ hs), ?_⟩
        rw [pB]
        exact h01 _ _ _ ⟨hb.alloc hb.size _, FloOk.no, FloOk.alloc (Nat.le_trans hD hb.size), (fun h => by cases h), hS _ _ hs⟩
  intro dA dB vA vB w h
  cases dA <;> cases dB
  · exact h00 vA vB w h
  · exact h01 vA vB w h
  · exact h10 vA vB w h
  · exact h11 vA vB w h
/-- A call between the floats. -/
theorem flo_call {i : Nat} {oi oA oB : Oper} {n : Nat} {L : Array Bool} {w0 : World} {fr : Value → Value → Act} (hi : ops[i]? = some oi) (hA : ops[iA]? = some oA) (gA : oA.guard = none) (hB : ops[iB]? = some oB) (gB : oB.guard = none)
    (alA : ∀ (a : Act) w, (execOp a.eval oA).run P w = .ok (.value (.pointer (some ⟨w.heap.size, 0, none⟩))) (w.alloc (.cells z t)))
    (alB : ∀ (a : Act) w, (execOp a.eval oB).run P w = .ok (.value (.pointer (some ⟨w.heap.size, 0, none⟩))) (w.alloc (.cells z t)))
    (pA : ∀ vA vB v, (fr vA vB).put oA.dst v = fr v vB) (pB : ∀ vA vB v, (fr vA vB).put oB.dst v = fr vA v)
    (hS : ∀ w o, S w → S (w.alloc o)) (hD : D0 ≤ w0.heap.size) (hAB : iA ≠ iB) (hiA : i ≠ iA) (hiB : i ≠ iB)
    (r00 : Region.ready .any ops L = [i, iA, iB]) (r10 : Region.ready .any ops (L.setIfInBounds iA true) = [i, iB]) (r01 : Region.ready .any ops (L.setIfInBounds iB true) = [i, iA]) (r11 : Region.ready .any ops ((L.setIfInBounds iA true).setIfInBounds iB true) = [i])
    (hcall : ∀ vA vB w, Below w0.heap.size w0 w → S w → wpList P ops (Behind Q fun a' w' => S w' ∧ Below w.heap.size w w' ∧ (a'.put oA.dst vA).put oB.dst vB = a' ∧ FloT P ops Q S D iA iB D0 t z n (L.setIfInBounds i true) w' (fun x y => (a'.put oA.dst x).put oB.dst y)) [oi] (fr vA vB) w) :
    FloT P ops Q S D iA iB D0 t z (n + 1) L w0 fr := by
  have key : ∀ j, j ∈ [i] → ∀ dA dB vA vB w, FloAt S D0 t z w0 dA dB vA vB w → ∀ m, nF (n + 1) dA dB = m + 1 → wpOp P ops Q j (fun a' w' => SD S D ((LF L iA iB dA dB).setIfInBounds j true) w' ∧ Goes P ops Q (SD S D) m ((LF L iA iB dA dB).setIfInBounds j true) a' w') (fr vA vB) w := by
    intro j hj dA dB vA vB w h m hm
    obtain rfl := List.mem_singleton.1 hj
    obtain ⟨hb, h1, h2, h3, hs⟩ := h
    refine wpOp_mono (fun a' w' hh => ?_) (wpOp_of_list hi (hcall vA vB w hb hs))
    obtain ⟨hs', hb', ha, hT⟩ := hh
    refine ⟨.inr hs', ?_⟩
    have : Goes P ops Q (SD S D) _ _ ((a'.put oA.dst vA).put oB.dst vB) w' := hT dA dB vA vB w' ⟨Below.refl _ _, h1.below hb', h2.below hb', h3, hs'⟩
    have e : LF (L.setIfInBounds j true) iA iB dA dB = (LF L iA iB dA dB).setIfInBounds j true := by
      cases dA <;> cases dB
      · rfl
      · exact Array.setIfInBounds_comm _ _ hiB
      · exact Array.setIfInBounds_comm _ _ hiA
      · show ((L.setIfInBounds j true).setIfInBounds iA true).setIfInBounds iB true = ((L.setIfInBounds iA true).setIfInBounds iB true).setIfInBounds j true
        rw [Array.setIfInBounds_comm (i := j) (j := iA) _ _ hiA, Array.setIfInBounds_comm (i := j) (j := iB) _ _ hiB]
    have en : nF n dA dB = m := by cases dA <;> cases dB <;> simp only [nF] at hm ⊢ <;> omega
    rw [e, en, ha] at this
    exact this
  refine flo_all (c := [i]) hA gA hB gB alA alB pA pB hS hD hAB r00 r10 r01 ?_ key
  intro vA vB w h
  refine Goes.all r11 (by simp) fun j hj => ?_
  exact key j hj true true vA vB w h n rfl
/-- The calls are done: both floats come up. -/
theorem flo_end {oA oB : Oper} {n : Nat} {L : Array Bool} {w0 : World} {fr : Value → Value → Act} (hA : ops[iA]? = some oA) (gA : oA.guard = none) (hB : ops[iB]? = some oB) (gB : oB.guard = none)
    (alA : ∀ (a : Act) w, (execOp a.eval oA).run P w = .ok (.value (.pointer (some ⟨w.heap.size, 0, none⟩))) (w.alloc (.cells z t)))
    (alB : ∀ (a : Act) w, (execOp a.eval oB).run P w = .ok (.value (.pointer (some ⟨w.heap.size, 0, none⟩))) (w.alloc (.cells z t)))
    (pA : ∀ vA vB v, (fr vA vB).put oA.dst v = fr v vB) (pB : ∀ vA vB v, (fr vA vB).put oB.dst v = fr vA v)
    (hS : ∀ w o, S w → S (w.alloc o)) (hD : D0 ≤ w0.heap.size) (hAB : iA ≠ iB)
    (r00 : Region.ready .any ops L = [iA, iB]) (r10 : Region.ready .any ops (L.setIfInBounds iA true) = [iB]) (r01 : Region.ready .any ops (L.setIfInBounds iB true) = [iA])
    (h11 : ∀ gA gB w, Below w0.heap.size w0 w → D0 ≤ gA → D0 ≤ gB → gA ≠ gB → Bk w gA t z → Bk w gB t z → S w → Goes P ops Q (SD S D) n ((L.setIfInBounds iA true).setIfInBounds iB true) (fr (.pointer (some ⟨gA, 0, none⟩)) (.pointer (some ⟨gB, 0, none⟩))) w) :
    FloT P ops Q S D iA iB D0 t z n L w0 fr := by
  refine flo_all (c := []) hA gA hB gB alA alB pA pB hS hD hAB r00 r10 r01 ?_ (fun j hj => by cases hj)
  intro vA vB w h
  obtain ⟨hb, h1, h2, h3, hs⟩ := h
  obtain ⟨a, rfl, ha, ka⟩ := h1 rfl
  obtain ⟨b, rfl, hb', kb⟩ := h2 rfl
  refine h11 a b w hb ha hb' (fun e => h3 rfl rfl (by rw [e])) ka kb hs
/-- The beginning: nothing has come up. -/
theorem flo_begin {n : Nat} {L : Array Bool} {w0 : World} {a : Act} {vA vB : Value} (fr : Value → Value → Act) (ha : a = fr vA vB) (hs : S w0) (h : FloT P ops Q S D iA iB D0 t z n L w0 fr) : Goes P ops Q (SD S D) (n + 2) L a w0 := by
  rw [ha]
  exact h false false vA vB w0 ⟨Below.refl _ _, FloOk.no, FloOk.no, (fun h => by cases h), hs⟩
/-- The same, where the two places hold what they held. -/
theorem flo_begin2 {n : Nat} {L : Array Bool} {w0 : World} {a : Act} {vA vB : Value} (sA sB : Option Tmp) (ha : (a.put sA vA).put sB vB = a) (hs : S w0) (h : FloT P ops Q S D iA iB D0 t z n L w0 (fun x y => (a.put sA x).put sB y)) : Goes P ops Q (SD S D) (n + 2) L a w0 :=
  flo_begin _ ha.symm hs h
theorem alloc_keep {w : World} {a : Addr} {v : Value} (o : Obj) (h : w.cell? a = some v) : (w.alloc o).cell? a = some v := (World.cell?_alloc_some w a o (by rw [h]; rfl)).trans h
end
/-- One float only. -/
def LF1 (L : Array Bool) (iA : Nat) : Bool → Array Bool
  | false => L
  | true => L.setIfInBounds iA true
def nF1 (n : Nat) : Bool → Nat
  | false => n + 1
  | true => n
def Flo1 (P : Program) (ops : Array Oper) (Q : Exit → Act → World → Prop) (S : World → Prop) (D : List Nat) (iA D0 : Nat) (t : TypeId) (z : Array Value) (n : Nat) (L : Array Bool) (w0 : World) (fr : Value → Act) : Prop :=
  ∀ dA vA w, Below w0.heap.size w0 w → FloOk D0 t z dA vA w → S w → Goes P ops Q (SD S D) (nF1 n dA) (LF1 L iA dA) (fr vA) w
section
variable {P : Program} {ops : Array Oper} {Q : Exit → Act → World → Prop} {S : World → Prop} {D : List Nat} {iA D0 : Nat} {t : TypeId} {z : Array Value}
theorem flo1_all {c : List Nat} {oA : Oper} {n : Nat} {L : Array Bool} {w0 : World} {fr : Value → Act} (hA : ops[iA]? = some oA) (gA : oA.guard = none)
    (alA : ∀ (a : Act) w, (execOp a.eval oA).run P w = .ok (.value (.pointer (some ⟨w.heap.size, 0, none⟩))) (w.alloc (.cells z t)))
    (pA : ∀ vA v, (fr vA).put oA.dst v = fr v) (hS : ∀ w o, S w → S (w.alloc o)) (hD : D0 ≤ w0.heap.size)
    (r0 : Region.ready .any ops L = c ++ [iA])
    (h1 : ∀ vA w, Below w0.heap.size w0 w → FloOk D0 t z true vA w → S w → Goes P ops Q (SD S D) n (L.setIfInBounds iA true) (fr vA) w)
    (hc : ∀ j, j ∈ c → ∀ vA w, Below w0.heap.size w0 w → S w → wpOp P ops Q j (fun a' w' => SD S D (L.setIfInBounds j true) w' ∧ Goes P ops Q (SD S D) n (L.setIfInBounds j true) a' w') (fr vA) w) :
    Flo1 P ops Q S D iA D0 t z n L w0 fr := by
  intro dA vA w hb ha hs
  cases dA
  · refine Goes.all r0 (by simp) fun j hj => ?_
    rcases List.mem_append.1 hj with hj | hj
    · exact hc j hj vA w hb hs
    · obtain rfl := List.mem_singleton.1 hj
      refine wpOp_alloc hA gA alA ⟨.inr (hS _ _ hs), ?_⟩
      rw [pA]
      exact h1 _ _ (hb.alloc hb.size _) (FloOk.alloc (Nat.le_trans hD hb.size)) (hS _ _ hs)
  · exact h1 vA w hb ha hs
theorem flo1_call {i : Nat} {oi oA : Oper} {n : Nat} {L : Array Bool} {w0 : World} {fr : Value → Act} (hi : ops[i]? = some oi) (hA : ops[iA]? = some oA) (gA : oA.guard = none)
    (alA : ∀ (a : Act) w, (execOp a.eval oA).run P w = .ok (.value (.pointer (some ⟨w.heap.size, 0, none⟩))) (w.alloc (.cells z t)))
    (pA : ∀ vA v, (fr vA).put oA.dst v = fr v) (hS : ∀ w o, S w → S (w.alloc o)) (hD : D0 ≤ w0.heap.size) (hiA : i ≠ iA)
    (r0 : Region.ready .any ops L = [i, iA]) (r1 : Region.ready .any ops (L.setIfInBounds iA true) = [i])
    (hcall : ∀ vA w, Below w0.heap.size w0 w → S w → wpList P ops (Behind Q fun a' w' => S w' ∧ Below w.heap.size w w' ∧ a'.put oA.dst vA = a' ∧ Flo1 P ops Q S D iA D0 t z n (L.setIfInBounds i true) w' (fun x => a'.put oA.dst x)) [oi] (fr vA) w) :
    Flo1 P ops Q S D iA D0 t z (n + 1) L w0 fr := by
  refine flo1_all (c := [i]) hA gA alA pA hS hD r0 ?_ ?_
  · intro vA w hb ha hs
    refine Goes.all r1 (by simp) fun j hj => ?_
    obtain rfl := List.mem_singleton.1 hj
    refine wpOp_mono (fun a' w' hh => ?_) (wpOp_of_list hi (hcall vA w hb hs))
    obtain ⟨hs', hb', hp, hT⟩ := hh
    refine ⟨.inr hs', ?_⟩
    have : Goes P ops Q (SD S D) n ((L.setIfInBounds j true).setIfInBounds iA true) (a'.put oA.dst vA) w' := hT true vA w' (Below.refl _ _) (ha.below hb') hs'
    rw [hp, Array.setIfInBounds_comm _ _ hiA] at this
    exact this
  · intro j hj vA w hb hs
    obtain rfl := List.mem_singleton.1 hj
    refine wpOp_mono (fun a' w' hh => ?_) (wpOp_of_list hi (hcall vA w hb hs))
    obtain ⟨hs', hb', hp, hT⟩ := hh
    refine ⟨.inr hs', ?_⟩
    have : Goes P ops Q (SD S D) (n + 1) (L.setIfInBounds j true) (a'.put oA.dst vA) w' := hT false vA w' (Below.refl _ _) FloOk.no hs'
    rw [hp] at this
    exact this
theorem flo1_end {oA : Oper} {n : Nat} {L : Array Bool} {w0 : World} {fr : Value → Act} (hA : ops[iA]? = some oA) (gA : oA.guard = none)
    (alA : ∀ (a : Act) w, (execOp a.eval oA).run P w = .ok (.value (.pointer (some ⟨w.heap.size, 0, none⟩))) (w.alloc (.cells z t)))
    (pA : ∀ vA v, (fr vA).put oA.dst v = fr v) (hS : ∀ w o, S w → S (w.alloc o)) (hD : D0 ≤ w0.heap.size)
    (r0 : Region.ready .any ops L = [iA])
    (h1 : ∀ gA w, Below w0.heap.size w0 w → D0 ≤ gA → Bk w gA t z → S w → Goes P ops Q (SD S D) n (L.setIfInBounds iA true) (fr (.pointer (some ⟨gA, 0, none⟩))) w) :
    Flo1 P ops Q S D iA D0 t z n L w0 fr := by
  refine flo1_all (c := []) hA gA alA pA hS hD r0 ?_ (fun j hj => by cases hj)
  intro vA w hb h1' hs
  obtain ⟨a, rfl, ha, ka⟩ := h1' rfl
  exact h1 a w hb ha ka hs
theorem flo1_begin {n : Nat} {L : Array Bool} {w0 : World} {a : Act} {vA : Value} (sA : Option Tmp) (ha : a.put sA vA = a) (hs : S w0) (h : Flo1 P ops Q S D iA D0 t z n L w0 (fun x => a.put sA x)) : Goes P ops Q (SD S D) (n + 1) L a w0 := by
  have := h false vA w0 (Below.refl _ _) FloOk.no hs
  dsimp only at this
  rw [ha] at this
  exact this
end
end Go.Proofs.YtfjcbmdeaiaeiaaGreat

/- From a law's contract to its statement: the part that is the same for each law. -/
namespace Go.Proofs.YtfjcbmdeaiaeiaaGreat
open Go.ChangeShapes Go.WideShapes Go.ChangeAt Go.RowKit

theorem Tryz.own : ownKnob Tryz.prog.godebug = none := by kernel_rfl
theorem Tryz.laidOut : laidOutB Tryz.prog = true := by kernel_rfl

section
variable {H : Type} {enc : TypeId × Value → H} {P : Program}
/-- Arguments read as before, where nothing old has turned. -/
theorem trodAll_stays (hl : laidOutB P = true) {W W' : World} (hb : Below W.heap.size W W') (sp : Nat → Bool) : ∀ {ts : List TypeId} {vs : List Value} {ds : List (DataW H)} {ps : List MemPlace},
    (∀ t ∈ ts, P.readableRec t = true ∧ t < P.types.size) → DataW.TrodAll enc P W 0 (fun _ => true) true ts vs ds ps → (∀ x ∈ ps, x.block < W.heap.size) → (∀ x ∈ ps, sp x.block = true) → DataW.TrodAll enc P W' 0 sp true ts vs ds ps
  | [], [], [], _, _, h, _, _ => h
  | t :: ts, v :: vs, d :: ds, ps, hr, h, hlt, hs => by
    obtain ⟨p, q, h1, h2, rfl⟩ := h
    have ht := hr t (by simp)
    refine ⟨p, q, WideElems.Trod_stays hl ht.1 ht.2 h1 (fun x hx => hb.same (hlt x (by simp [hx]))) (fun x hx => hs x (by simp [hx])), ?_, rfl⟩
    exact trodAll_stays hl hb sp (fun t' ht' => hr t' (by simp [ht'])) h2 (fun x hx => hlt x (by simp [hx])) (fun x hx => hs x (by simp [hx]))
  | [], [], _ :: _, _, _, h, _, _ => h.elim
  | [], _ :: _, _, _, _, h, _, _ => h.elim
  | _ :: _, [], _, _, _, h, _, _ => h.elim
  | _ :: _, _ :: _, [], _, _, h, _, _ => h.elim

/-- A law whose call has made memory and turned nothing old, and told true. -/
theorem law_post {f : Func} {s : ChangeSpec} {apart fresh handsOn again : Bool} {W W' : World} {args : Array Value} {ds gs : List (DataW H)} {before : List MemPlace} {tb : TypeId}
    (hl : laidOutB P = true) (hreadB : f.params.toList.all (fun t => P.readableRec t && decide (t < P.types.size)) = true) (hrt : f.resultTypes = #[tb]) (htb : P.underlying tb = some .bool) (hv0 : s.vars = [])
    (hW : DataW.Whole enc P f.params.toList s.vars apart W args.toList ds gs before)
    (hres : (s.fn H (ds ++ gs)).results = [.lit (.bool true)]) (hargs : (s.fn H (ds ++ gs)).args = ds) (hvars : (s.fn H (ds ++ gs)).vars = [])
    (hb : Below W.heap.size W W') : s.post enc P f apart fresh handsOn again W args (.bool true) W' := by
  have hread : ∀ t ∈ f.params.toList, P.readableRec t = true ∧ t < P.types.size := fun t ht => by simpa using List.all_eq_true.1 hreadB t ht
  have hW0 := hW
  have hlt : ∀ p ∈ before, p.block < W.heap.size := fun p hp => hW.lt p hp
  have hold : ∀ p ∈ before, (fun b => decide (b < W.heap.size)) p.block = true := fun p hp => by simpa using hlt p hp
  obtain ⟨p, q, hA, hV, rfl, hz, hn⟩ := hW
  rw [hv0] at hV
  obtain ⟨rfl, rfl⟩ := trodVars_none hV
  simp only [List.append_nil] at *
  have hA' : ∀ sp : Nat → Bool, (∀ x ∈ p, sp x.block = true) → DataW.TrodAll enc P W' 0 sp true f.params.toList args.toList (s.fn H ds).args p := fun sp hs => by
    rw [hargs]
    exact trodAll_stays hl hb sp hread hA hlt hs
  have hR : ∀ (b : Nat) (sp : Nat → Bool) (hd : Bool), DataW.TrodAll enc P W' b sp hd f.resultTypes.toList ((Value.bool true).resultList f.resultTypes.size) (s.fn H ds).results [] := fun b sp hd => by
    rw [hres, hrt]
    exact trodAll_mk1 (shut_bool htb true)
  have hVs : ∀ sp : Nat → Bool, DataW.TrodVars enc P W' sp s.vars (s.fn H ds).vars [] := fun sp => by
    rw [hv0, hvars]
    rfl
  refine ⟨ds, [], p, [], p, [], hW0, by simpa using hR _ _ _, by simpa using hA' _ hold, by simpa using hVs _, World.keptBut_mono (fun x hx => ⟨hx, .inr (.inl hx)⟩) (hb.frame (· ∈ p)), fun _ => ?_⟩
  refine ⟨ok_one hrt rfl (okWide_bool_mk htb true), _, _, ([] ++ p) ++ [], ⟨[] ++ p, [], by simpa using trodAll_append (hA' _ (fun _ _ => rfl)) (hR _ _ _), by simpa using hVs _, rfl, ?_, ?_⟩, ?_⟩
  · intro b off hp
    have hin : MemPlace.cell b off ∈ p := by simpa using hp
    rw [hb.frozen (hlt _ hin)]
    exact hz b off hin
  · intro ha
    simpa using hn ha
  · intro x hx _
    simpa using hx
end

end Go.Proofs.YtfjcbmdeaiaeiaaGreat

/- Arguments that are integers, opened. -/
namespace Go.Proofs.YtfjcbmdeaiaeiaaGreat
open Go.Joins Go.ChangeShapes Go.WideShapes Go.RowKit Go.Deep Go.ChangeAt

theorem spot_of_cellI {w : World} {a : Addr} {u : Value} (h : w.cell? a = some u) : a = ⟨a.block, a.off, none⟩ := by
  obtain ⟨b, o, s⟩ := a
  unfold World.cell? at h
  split at h
  · split at h
    · cases h
    · rename_i hs
      cases s with
      | none => rfl
      | some x => simp at hs
  · cases h
theorem add_plainI (b o j : Nat) : (⟨b, o, none⟩ : Addr).add j = ⟨b, o + j, none⟩ := by
  unfold Addr.add
  split
  · simp [*]
  · rfl
section
variable {H : Type} {enc : TypeId × Value → H} {P : Program} {w : World}
/-- A cell that is a slice of limbs. -/
theorem open_limbs {t e : TypeId} {fuel : Nat} {u : Value} {x : DataW H × List MemPlace} (ht : P.underlying t = some (.slice e)) (he : P.underlying e = some (.int .u32)) (hc : P.cellsOf e = 1)
    (h : DataW.trod enc P w 0 (fun _ => true) true fuel t [u] = some x) : ∃ (A : Option Addr) (n c : Nat) (l : List Nat), u = .slice A n c ∧ Lim w w.heap.size A n c l := by
  rcases open_ints ht he hc h with ⟨hcs, _⟩ | ⟨a, len, cap, zs, hcs, _, hl, hm, hz, _, hi, hwf⟩
  · have e : u = .slice none 0 0 := by simpa using hcs
    exact ⟨none, 0, 0, [], e, Lim.nil_ _ _⟩
  · have e : u = .slice (some a) len cap := by simpa using hcs
    simp only [if_true] at hz
    have hnat : ∀ z ∈ zs, 0 ≤ z ∧ z < 4294967296 := fun z hzz => by
      have := hwf z hzz
      simp only [Lit.wf, Bool.and_eq_true, decide_eq_true_eq] at this
      have h1 : IntKind.min .u32 = 0 := by decide
      have h2 : IntKind.max .u32 = 4294967295 := by decide
      omega
    refine ⟨some a, len, cap, (zs.take len).map Int.toNat, e, ⟨⟨by rw [u32s_length, List.length_map, List.length_take]; omega, hl, by simpa [maxLen] using hm, fun hn => ?_⟩, fun y hy => ?_⟩⟩
    · have ha := hi 0 (by omega)
      rw [show a.add 0 = a from rfl] at ha
      have hs := spot_of_cellI ha
      refine ⟨a.block, a.off, congrArg some hs, World.block_lt_of_cell? w _ ha, fun k v hv => ?_⟩
      rw [u32s_get?, List.getElem?_map] at hv
      have hk : k < len := by
        rcases Nat.lt_or_ge k len with h | h
        · exact h
        · rw [List.getElem?_eq_none (by rw [List.length_take]; omega)] at hv; cases hv
      have hkz : k < zs.length := by omega
      have hik := hi k hkz
      rw [hs, add_plainI] at hik
      rw [List.getElem?_take, if_pos hk, List.getElem?_eq_getElem hkz] at hv
      rw [List.getD_eq_getElem?_getD, List.getElem?_eq_getElem hkz] at hik
      have hb := hnat zs[k] (List.getElem_mem hkz)
      simp only [Option.map_some, Option.some.injEq, Option.getD_some] at hv hik
      rw [← hv, hik, Int.toNat_of_nonneg hb.1]
    · obtain ⟨z, hzz, rfl⟩ := List.mem_map.1 hy
      have := hnat z (List.mem_of_mem_take hzz)
      omega
end
set_option maxRecDepth 100000 in
/-- An argument that is an integer. -/
theorem open_I {H : Type} {enc : TypeId × Value → H} {w : World} {v : Value} {d : DataW H} {ps : List MemPlace} {r : Reach} {b0 : Nat}
    (hv : Value.okWide Tryz.prog w r b0 24 v) (h : DataW.Trod enc Tryz.prog w 0 (fun _ => true) true 24 v d ps) :
    ∃ (s : Bool) (A : Option Addr) (n c : Nat) (l : List Nat), v = .agg #[.bool s, .slice A n c] ∧ Lim w w.heap.size A n c l := by
  obtain ⟨f0, f1, hu, ho, t0, t1⟩ : ∃ f0 f1, Tryz.prog.underlying 24 = some (.struct #[f0, f1]) ∧ oneCellFields Tryz.prog #[f0, f1] = true ∧ f0.type = 4 ∧ f1.type = 22 :=
    ⟨(Tryz.prog.fieldsOf 24)[0]!, (Tryz.prog.fieldsOf 24)[1]!, by kernel_rfl, by kernel_rfl, by kernel_rfl, by kernel_rfl⟩
  obtain ⟨u0, u1, y0, y1, fl, rfl, -, -, k0, k1⟩ := open_agg2 hu ho (by kernel_rfl) hv h
  rw [t0] at k0
  rw [t1] at k1
  obtain ⟨s, e0, -⟩ := DataW.trod_bool Tryz.underlying4 k0
  obtain ⟨A, n, c, l, e1, hl⟩ := open_limbs Tryz.underlying22 Tryz.underlying77 (by kernel_rfl) k1
  have e0' : u0 = .bool s := by simpa using e0
  subst e0'; subst e1
  exact ⟨s, A, n, c, l, rfl, hl⟩

end Go.Proofs.YtfjcbmdeaiaeiaaGreat

/- Arguments that are fractions, opened. -/
namespace Go.Proofs.YtfjcbmdeaiaeiaaGreat
open Go.Joins Go.ChangeShapes Go.WideShapes Go.RowKit Go.Deep Go.ChangeAt

set_option maxRecDepth 100000 in
/-- Two cells that read as an integer. -/
theorem open_IC {H : Type} {enc : TypeId × Value → H} {w : World} {a b : Value} {fuel : Nat} {x : DataW H × List MemPlace}
    (h : DataW.trod enc Tryz.prog w 0 (fun _ => true) true fuel 24 [a, b] = some x) :
    ∃ (s : Bool) (A : Option Addr) (n c : Nat) (l : List Nat), a = .bool s ∧ b = .slice A n c ∧ Lim w w.heap.size A n c l := by
  obtain ⟨f0, f1, hu, ho, t0, t1⟩ : ∃ f0 f1, Tryz.prog.underlying 24 = some (.struct #[f0, f1]) ∧ oneCellFields Tryz.prog #[f0, f1] = true ∧ f0.type = 4 ∧ f1.type = 22 :=
    ⟨(Tryz.prog.fieldsOf 24)[0]!, (Tryz.prog.fieldsOf 24)[1]!, by kernel_rfl, by kernel_rfl, by kernel_rfl, by kernel_rfl⟩
  obtain ⟨y0, y1, n, -, -, h0, h1⟩ := trod_struct2 hu h
  obtain ⟨o0, k0⟩ := hone_of ho 0 f0 rfl
  obtain ⟨o1, k1⟩ := hone_of ho 1 f1 rfl
  have j0 : DataW.trod enc Tryz.prog w 0 (fun _ => true) true n f0.type [a] = some y0 := by simpa [o0, k0] using h0
  have j1 : DataW.trod enc Tryz.prog w 0 (fun _ => true) true n f1.type [b] = some y1 := by simpa [o1, k1] using h1
  rw [t0] at j0
  rw [t1] at j1
  obtain ⟨s, e0, -⟩ := DataW.trod_bool Tryz.underlying4 j0
  obtain ⟨A, m, c, l, e1, hl⟩ := open_limbs Tryz.underlying22 Tryz.underlying77 (by kernel_rfl) j1
  have e0' : a = .bool s := by simpa using e0
  exact ⟨s, A, m, c, l, e0', e1, hl⟩
set_option maxRecDepth 100000 in
/-- An argument that is a fraction. -/
theorem open_R {H : Type} {enc : TypeId × Value → H} {w : World} {v : Value} {d : DataW H} {ps : List MemPlace} {r : Reach} {b0 : Nat}
    (hv : Value.okWide Tryz.prog w r b0 41 v) (h : DataW.Trod enc Tryz.prog w 0 (fun _ => true) true 41 v d ps) :
    ∃ (s : Bool) (A : Option Addr) (n c : Nat) (l : List Nat) (t : Bool) (B : Option Addr) (m e : Nat) (k : List Nat), v = .agg #[.bool s, .slice A n c, .bool t, .slice B m e] ∧ Lim w w.heap.size A n c l ∧ Lim w w.heap.size B m e k := by
  obtain ⟨f0, f1, hu, t0, t1, o0, o1⟩ : ∃ f0 f1, Tryz.prog.underlying 41 = some (.struct #[f0, f1]) ∧ f0.type = 24 ∧ f1.type = 24 ∧ f0.offset = 0 ∧ f1.offset = 2 :=
    ⟨(Tryz.prog.fieldsOf 41)[0]!, (Tryz.prog.fieldsOf 41)[1]!, by kernel_rfl, by kernel_rfl, by kernel_rfl, by kernel_rfl, by kernel_rfl⟩
  have hI : Tryz.prog.cellsOf 24 = 2 := by kernel_rfl
  have hR : Tryz.prog.cellsOf 41 = 4 := by kernel_rfl
  obtain ⟨cs, rfl, hsz⟩ := okWide_struct hu hv
  obtain ⟨c0, c1, c2, c3, rfl⟩ := array4 (hsz.trans hR)
  obtain ⟨fuel, hf⟩ := h
  obtain ⟨y0, y1, n, -, -, h0, h1⟩ := trod_struct2 hu hf
  have j0 : DataW.trod enc Tryz.prog w 0 (fun _ => true) true n 24 [c0, c1] = some y0 := by simpa [Value.cells, t0, o0, hI] using h0
  have j1 : DataW.trod enc Tryz.prog w 0 (fun _ => true) true n 24 [c2, c3] = some y1 := by simpa [Value.cells, t1, o1, hI] using h1
  obtain ⟨s, A, n1, c, l, rfl, rfl, hl⟩ := open_IC j0
  obtain ⟨t, B, m, e, k, rfl, rfl, hk⟩ := open_IC j1
  exact ⟨s, A, n1, c, l, t, B, m, e, k, rfl, hl, hk⟩

end Go.Proofs.YtfjcbmdeaiaeiaaGreat

/- An argument that is an array of two integers, opened. -/
namespace Go.Proofs.YtfjcbmdeaiaeiaaGreat
open Go.Joins Go.ChangeShapes Go.WideShapes Go.RowKit Go.Deep Go.ChangeAt

theorem okWide_array_ {P : Program} {w : World} {r : Reach} {base : Nat} {t e : TypeId} {n : Nat} {v : Value} (ht : P.underlying t = some (.array n e)) (h : Value.okWide P w r base t v) : ∃ cs, v = .agg cs ∧ cs.size = P.cellsOf t := by
  simp only [Value.okWide, ht] at h
  obtain ⟨cs, h1, h2, _⟩ := h
  exact ⟨cs, h1, h2⟩
theorem array2 {cs : Array Value} (h : cs.size = 2) : ∃ a b, cs = #[a, b] := by
  obtain ⟨l⟩ := cs
  match l, h with
  | [a, b], _ => exact ⟨a, b, rfl⟩
set_option maxRecDepth 100000 in
theorem open_N {H : Type} {enc : TypeId × Value → H} {w : World} {v : Value} {d : DataW H} {ps : List MemPlace} {r : Reach} {b0 : Nat}
    (hv : Value.okWide Tryz.prog w r b0 42 v) (h : DataW.Trod enc Tryz.prog w 0 (fun _ => true) true 42 v d ps) :
    ∃ n m : Int, v = .agg #[.int .i64 n, .int .i64 m] ∧ -9223372036854775808 ≤ n ∧ n ≤ 9223372036854775807 ∧ -9223372036854775808 ≤ m ∧ m ≤ 9223372036854775807 := by
  have hu : Tryz.prog.underlying 42 = some (.array 2 3) := by kernel_rfl
  have hI : Tryz.prog.cellsOf 3 = 1 := by kernel_rfl
  have hR : Tryz.prog.cellsOf 42 = 2 := by kernel_rfl
  obtain ⟨cs, rfl, hsz⟩ := okWide_array_ hu hv
  obtain ⟨c0, c1, rfl⟩ := array2 (hsz.trans hR)
  obtain ⟨fuel, hf⟩ := h
  obtain ⟨xs, m, -, -, -, hl, hi⟩ := DataW.trod_array hu hf
  have h0 := hi 0 (by omega)
  have h1 := hi 1 (by omega)
  rw [hI] at h0 h1
  obtain ⟨y0, y1, rfl⟩ : ∃ y0 y1, xs = [y0, y1] := by
    match xs, hl with
    | [a, b], _ => exact ⟨a, b, rfl⟩
  have j0 : DataW.trod enc Tryz.prog w 0 (fun _ => true) true m 3 [c0] = some y0 := by simpa [Value.cells] using h0
  have j1 : DataW.trod enc Tryz.prog w 0 (fun _ => true) true m 3 [c1] = some y1 := by simpa [Value.cells] using h1
  obtain ⟨z0, e0, _, w0⟩ := DataW.trod_int Tryz.underlying3 j0
  obtain ⟨z1, e1, _, w1⟩ := DataW.trod_int Tryz.underlying3 j1
  simp only [Lit.wf, Bool.and_eq_true, decide_eq_true_eq] at w0 w1
  obtain rfl : c0 = .int .i64 z0 := by simpa using e0
  obtain rfl : c1 = .int .i64 z1 := by simpa using e1
  exact ⟨z0, z1, rfl, w0.1, w0.2, w1.1, w1.2⟩

end Go.Proofs.YtfjcbmdeaiaeiaaGreat
