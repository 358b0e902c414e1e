/- Several texts in one. -/
import Derived.Test.YthlfhfkfjefidaaGreatIntG
import Derived.Test.YthlfhfkfjefidaaGreatLinG
import Derived.Below
import Derived.Test.YthlfhfkfjefidaaGreatFrac1
import Derived.Test.YthlfhfkfjefidaaGreatRefB
import Derived.Test.YthlfhfkfjefidaaGreatSmaG
import Derived.Laws.MakeOwn
import Derived.Laws.Entries
import Derived.Laws.Rows
import Derived.Test.YthlfhfkfjefidaaGreatRefF
import Derived.Test.YthlfhfkfjefidaaGreatRatG
import Derived.Test.YthlfhfkfjefidaaGreatRefDivB
import Derived.Test.YthlfhfkfjefidaaGreatAriG
/- Short forms of what a walk says again and again: what follows from the text alone is found by the default of an argument. -/
namespace Go.Proofs.YthlfhfkfjefidaaGreat
open Go Go.RowKit Go.Proofs.YthlfhfkfjefidaaGreat.Sim
section
variable {P : Program} {ops : Array Oper} {Q : Exit → Act → World → Prop} {S : World → Prop} {n : Nat} {oi : Oper} {L : Array Bool} {a : Act} {w : World}
theorem gt3 {D : List Nat} (i : Nat) (E : List Nat) (v : Value) (hS : S w) (h : Goes P ops Q (SD S D) n (L.setIfInBounds i true) (a.put oi.dst v) w) (hi : ops[i]? = some oi := by exact rfl) (hB : takeE ops D E i L = true := by kernel_rfl) (hg : oi.guard = none := by exact rfl)
 (hQ : ∀ c a w, Q (.panic c) (a.put oi.dst v) w → Q (.panic c) a w := by exact fun _ _ _ h => h) (hy : ∀ w, S w → (execOp a.eval oi).run P w = .ok (.value v) w := by intro w' hw'; obtain ⟨z0, z1, z2⟩ := hw'; go_simp) : Goes P ops Q (SD S D) (n + 1) L a w := goes_takeE E hi hB hg hQ hy hS h
theorem gt5 {D : List Nat} (i : Nat) (E : List Nat) (v : Value) (hS : S w) (h : Goes P ops Q (SD S D) n (L.setIfInBounds i true) (a.put oi.dst v) w) (hi : ops[i]? = some oi := by exact rfl) (hB : takeE ops D E i L = true := by kernel_rfl) (hg : oi.guard = none := by exact rfl)
 (hQ : ∀ c a w, Q (.panic c) (a.put oi.dst v) w → Q (.panic c) a w := by exact fun _ _ _ h => h) (hy : ∀ w, S w → (execOp a.eval oi).run P w = .ok (.value v) w := by intro w' hw'; obtain ⟨z0, z1, z2, z3, z4⟩ := hw'; go_simp) : Goes P ops Q (SD S D) (n + 1) L a w := goes_takeE E hi hB hg hQ hy hS h
theorem gt7 {D : List Nat} (i : Nat) (E : List Nat) (v : Value) (hS : S w) (h : Goes P ops Q (SD S D) n (L.setIfInBounds i true) (a.put oi.dst v) w) (hi : ops[i]? = some oi := by exact rfl) (hB : takeE ops D E i L = true := by kernel_rfl) (hg : oi.guard = none := by exact rfl)
 (hQ : ∀ c a w, Q (.panic c) (a.put oi.dst v) w → Q (.panic c) a w := by exact fun _ _ _ h => h) (hy : ∀ w, S w → (execOp a.eval oi).run P w = .ok (.value v) w := by intro w' hw'; obtain ⟨z0, z1, z2, z3, z4, z5, z6⟩ := hw'; go_simp) : Goes P ops Q (SD S D) (n + 1) L a w := goes_takeE E hi hB hg hQ hy hS h
theorem gt8 {D : List Nat} (i : Nat) (E : List Nat) (v : Value) (hS : S w) (h : Goes P ops Q (SD S D) n (L.setIfInBounds i true) (a.put oi.dst v) w) (hi : ops[i]? = some oi := by exact rfl) (hB : takeE ops D E i L = true := by kernel_rfl) (hg : oi.guard = none := by exact rfl)
 (hQ : ∀ c a w, Q (.panic c) (a.put oi.dst v) w → Q (.panic c) a w := by exact fun _ _ _ h => h) (hy : ∀ w, S w → (execOp a.eval oi).run P w = .ok (.value v) w := by intro w' hw'; obtain ⟨z0, z1, z2, z3, z4, z5, z6, z7⟩ := hw'; go_simp) : Goes P ops Q (SD S D) (n + 1) L a w := goes_takeE E hi hB hg hQ hy hS h
theorem gt11 {D : List Nat} (i : Nat) (E : List Nat) (v : Value) (hS : S w) (h : Goes P ops Q (SD S D) n (L.setIfInBounds i true) (a.put oi.dst v) w) (hi : ops[i]? = some oi := by exact rfl) (hB : takeE ops D E i L = true := by kernel_rfl) (hg : oi.guard = none := by exact rfl)
 (hQ : ∀ c a w, Q (.panic c) (a.put oi.dst v) w → Q (.panic c) a w := by exact fun _ _ _ h => h) (hy : ∀ w, S w → (execOp a.eval oi).run P w = .ok (.value v) w := by intro w' hw'; obtain ⟨z0, z1, z2, z3, z4, z5, z6, z7, z8, z9, z10⟩ := hw'; go_simp) : Goes P ops Q (SD S D) (n + 1) L a w := goes_takeE E hi hB hg hQ hy hS h
theorem gt12 {D : List Nat} (i : Nat) (E : List Nat) (v : Value) (hS : S w) (h : Goes P ops Q (SD S D) n (L.setIfInBounds i true) (a.put oi.dst v) w) (hi : ops[i]? = some oi := by exact rfl) (hB : takeE ops D E i L = true := by kernel_rfl) (hg : oi.guard = none := by exact rfl)
 (hQ : ∀ c a w, Q (.panic c) (a.put oi.dst v) w → Q (.panic c) a w := by exact fun _ _ _ h => h) (hy : ∀ w, S w → (execOp a.eval oi).run P w = .ok (.value v) w := by intro w' hw'; obtain ⟨z0, z1, z2, z3, z4, z5, z6, z7, z8, z9, z10, z11⟩ := hw'; go_simp) : Goes P ops Q (SD S D) (n + 1) L a w := goes_takeE E hi hB hg hQ hy hS h
theorem gt13 {D : List Nat} (i : Nat) (E : List Nat) (v : Value) (hS : S w) (h : Goes P ops Q (SD S D) n (L.setIfInBounds i true) (a.put oi.dst v) w) (hi : ops[i]? = some oi := by exact rfl) (hB : takeE ops D E i L = true := by kernel_rfl) (hg : oi.guard = none := by exact rfl)
 (hQ : ∀ c a w, Q (.panic c) (a.put oi.dst v) w → Q (.panic c) a w := by exact fun _ _ _ h => h) (hy : ∀ w, S w → (execOp a.eval oi).run P w = .ok (.value v) w := by intro w' hw'; obtain ⟨z0, z1, z2, z3, z4, z5, z6, z7, z8, z9, z10, z11, z12⟩ := hw'; go_simp) : Goes P ops Q (SD S D) (n + 1) L a w := goes_takeE E hi hB hg hQ hy hS h
theorem gm3 (i : Nat) (v : Value) (hS : S w) (h : Goes P ops Q (SD S []) n (L.setIfInBounds i true) (a.put oi.dst v) w) (hi : ops[i]? = some oi := by exact rfl) (hB : takeE ops [] [] i L = true := by kernel_rfl) (hg : Region.wanted oi (yielded ops a.tmps) = true := by kernel_rfl)
 (hQ : ∀ c a w, Q (.panic c) (a.put oi.dst v) w → Q (.panic c) a w := by exact fun _ _ _ h => h) (hy : ∀ w, S w → (execOp a.eval oi).run P w = .ok (.value v) w := by intro w' hw'; obtain ⟨z0, z1, z2⟩ := hw'; go_simp) : Goes P ops Q (SD S []) (n + 1) L a w := goes_met hi hB hg hQ hy hS h
theorem gm11 (i : Nat) (v : Value) (hS : S w) (h : Goes P ops Q (SD S []) n (L.setIfInBounds i true) (a.put oi.dst v) w) (hi : ops[i]? = some oi := by exact rfl) (hB : takeE ops [] [] i L = true := by kernel_rfl) (hg : Region.wanted oi (yielded ops a.tmps) = true := by kernel_rfl)
 (hQ : ∀ c a w, Q (.panic c) (a.put oi.dst v) w → Q (.panic c) a w := by exact fun _ _ _ h => h) (hy : ∀ w, S w → (execOp a.eval oi).run P w = .ok (.value v) w := by intro w' hw'; obtain ⟨z0, z1, z2, z3, z4, z5, z6, z7, z8, z9, z10⟩ := hw'; go_simp) : Goes P ops Q (SD S []) (n + 1) L a w := goes_met hi hB hg hQ hy hS h
theorem gs (i : Nat) (hS : S w) (h : Goes P ops Q (SD S []) n (L.setIfInBounds i true) (a.put oi.dst undef) w) (hi : ops[i]? = some oi := by exact rfl) (hB : takeE ops [] [] i L = true := by kernel_rfl) (hg : Region.wanted oi (yielded ops a.tmps) = false := by kernel_rfl)
 (hQ : ∀ c a w, Q (.panic c) (a.put oi.dst undef) w → Q (.panic c) a w := by exact fun _ _ _ h => h) : Goes P ops Q (SD S []) (n + 1) L a w := goes_skip hi hB hg hQ hS h
theorem gc {D : List Nat} (i : Nat) (h : wpList P ops (Behind Q fun a' w' => S w' ∧ Goes P ops Q (SD S D) n (L.setIfInBounds i true) a' w') [oi] a w) (hi : ops[i]? = some oi := by exact rfl) (hr : Region.ready .any ops L = [i] := by kernel_rfl) : Goes P ops Q (SD S D) (n + 1) L a w := goes_call hi hr h
end
end Go.Proofs.YthlfhfkfjefidaaGreat
/- Sums of products, and what certificates are: on numbers. -/
namespace Go.Proofs.YthlfhfkfjefidaaGreat
def dotI : List Int → List Int → Int
 | x :: l, y :: m => x * y + dotI l m
 | _, _ => 0
def dotQ : List Rat → List Rat → Rat
 | x :: l, y :: m => x * y + dotQ l m
 | _, _ => 0
theorem dotQ_nil (l : List Rat) : dotQ l [] = 0 := by cases l <;> rfl
theorem dotI_take : ∀ {l m : List Int} {k : Nat} {x y : Int}, l[k]? = some x → m[k]? = some y → dotI (l.take (k + 1)) (m.take (k + 1)) = dotI (l.take k) (m.take k) + x * y
 | [], _, _, _, _, h, _ => by simp at h
 | _ :: _, [], _, _, _, _, h => by simp at h
 | a :: l, b :: m, 0, x, y, h1, h2 => by
   simp at h1 h2
   subst h1; subst h2
   simp [dotI]
 | a :: l, b :: m, k + 1, x, y, h1, h2 => by
   have := dotI_take (l := l) (m := m) (k := k) (by simpa using h1) (by simpa using h2)
   simp only [List.take_succ_cons, dotI] at this ⊢
   rw [this, Int.add_assoc]
theorem dotQ_take : ∀ {l m : List Rat} {k : Nat} {x y : Rat}, l[k]? = some x → m[k]? = some y → dotQ (l.take (k + 1)) (m.take (k + 1)) = dotQ (l.take k) (m.take k) + x * y
 | [], _, _, _, _, h, _ => by simp at h
 | _ :: _, [], _, _, _, _, h => by simp at h
 | a :: l, b :: m, 0, x, y, h1, h2 => by
   simp at h1 h2
   subst h1; subst h2
   simp [dotQ, Rat.add_zero, Rat.zero_add]
 | a :: l, b :: m, k + 1, x, y, h1, h2 => by
   have := dotQ_take (l := l) (m := m) (k := k) (by simpa using h1) (by simpa using h2)
   simp only [List.take_succ_cons, dotQ] at this ⊢
   rw [this, Rat.add_assoc]
theorem dotQ_comm : ∀ (l m : List Rat), dotQ l m = dotQ m l
 | [], m => by rw [dotQ_nil]; rfl
 | a :: l, [] => by rw [dotQ_nil]; rfl
 | a :: l, b :: m => by simp only [dotQ]; rw [Rat.mul_comm, dotQ_comm l m]
structure Vec (N : List Int) (d : Int) (L : List Rat) : Prop where
 pos : 0 < d
 len : N.length = L.length
 at_ : ∀ (k : Nat) (z : Int) (x : Rat), N[k]? = some z → L[k]? = some x → x * (d : Rat) = (z : Rat)
theorem dot_vec {d e : Int} : ∀ (N : List Int) (L : List Rat) (M : List Int) (K : List Rat), N.length = L.length → M.length = K.length → (∀ (k : Nat) (z : Int) (x : Rat), N[k]? = some z → L[k]? = some x → x * (d : Rat) = (z : Rat)) → (∀ (k : Nat) (z : Int) (x : Rat), M[k]? = some z → K[k]? = some x → x * (e : Rat) = (z : Rat)) →
 dotQ L K * ((d : Rat) * (e : Rat)) = ((dotI N M : Int) : Rat)
 | [], [], M, K, _, _, _, _ => by simp [dotQ, dotI, Rat.zero_mul]
 | [], _ :: _, _, _, h, _, _, _ => by simp at h
 | _ :: _, [], _, _, h, _, _, _ => by simp at h
 | z :: N, x :: L, [], [], _, _, _, _ => by simp [dotQ, dotI, Rat.zero_mul]
 | _ :: _, _ :: _, [], _ :: _, _, h, _, _ => by simp at h
 | _ :: _, _ :: _, _ :: _, [], _, h, _, _ => by simp at h
 | z :: N, x :: L, u :: M, y :: K, h1, h2, h3, h4 => by
   have ih := dot_vec (d := d) (e := e) N L M K (by simpa using h1) (by simpa using h2) (fun k z x hz hx => h3 (k + 1) z x (by simpa using hz) (by simpa using hx)) (fun k z x hz hx => h4 (k + 1) z x (by simpa using hz) (by simpa using hx))
   have e1 := h3 0 z x rfl rfl
   have e2 := h4 0 u y rfl rfl
   simp only [dotQ, dotI]
   rw [Rat.intCast_add, Rat.intCast_mul, ← e1, ← e2, ← ih]
   grind
theorem divInt_of {x : Rat} {p q : Int} (h : x * (q : Rat) = (p : Rat)) (hq : 0 < q) : Rat.divInt p q = x := by
 have h0 : (q : Rat) ≠ 0 := by exact_mod_cast (show q ≠ 0 by omega)
 rw [Rat.divInt_eq_div, ← h]
 grind
theorem of_divInt {x : Rat} {p q : Int} (h : Rat.divInt p q = x) (hq : 0 < q) : x * (q : Rat) = (p : Rat) := by
 rw [← h, Rat.divInt_eq_div]
 exact Rat.div_mul_cancel (by exact_mod_cast (show q ≠ 0 by omega))
theorem Vec.dot {N M : List Int} {d e : Int} {L K : List Rat} (h1 : Vec N d L) (h2 : Vec M e K) : Rat.divInt (dotI N M) (d * e) = dotQ L K := by
 refine divInt_of ?_ (Int.mul_pos h1.pos h2.pos)
 rw [Rat.intCast_mul]
 exact dot_vec N L M K h1.len h2.len h1.at_ h2.at_
theorem over_mul {x : Rat} {p q r : Int} (h : x * (q : Rat) = (p : Rat)) : x * ((q * r : Int) : Rat) = ((p * r : Int) : Rat) := by
 rw [Rat.intCast_mul, Rat.intCast_mul, ← h, Rat.mul_assoc]
def nnL (l : List Rat) : Bool := l.all (fun x => decide (0 ≤ x))
def leL : List Rat → List Rat → Bool
 | a :: l, b :: m => decide (a ≤ b) && leL l m
 | _, _ => true
theorem nnL_of {l : List Rat} (h : ∀ (k : Nat) (a : Rat), l[k]? = some a → 0 ≤ a) : nnL l = true := by
 unfold nnL
 rw [List.all_eq_true]
 intro a ha
 obtain ⟨k, hk⟩ := List.getElem?_of_mem ha
 exact decide_eq_true (h k a hk)
theorem nnL_no {l : List Rat} {k : Nat} {a : Rat} (h : l[k]? = some a) (hn : ¬ 0 ≤ a) : nnL l = false := by
 rcases hb : nnL l with _ | _
 · rfl
 · exact absurd (of_decide_eq_true (List.all_eq_true.1 hb a (List.mem_of_getElem? h))) hn
theorem leL_of : ∀ {l m : List Rat}, (∀ (k : Nat) (a b : Rat), l[k]? = some a → m[k]? = some b → a ≤ b) → leL l m = true
 | [], _, _ => by simp [leL]
 | _ :: _, [], _ => by simp [leL]
 | a :: l, b :: m, h => by
   rw [leL, decide_eq_true (h 0 a b rfl rfl), Bool.true_and]
   exact leL_of fun k a b ha hb => h (k + 1) a b (by simpa using ha) (by simpa using hb)
theorem leL_no : ∀ {l m : List Rat} {k : Nat} {a b : Rat}, l[k]? = some a → m[k]? = some b → ¬ a ≤ b → leL l m = false
 | [], _, _, _, _, h, _, _ => by simp at h
 | _ :: _, [], _, _, _, _, h, _ => by simp at h
 | x :: l, y :: m, 0, a, b, h1, h2, h3 => by
   simp at h1 h2
   subst h1; subst h2
   rw [leL, decide_eq_false h3, Bool.false_and]
 | x :: l, y :: m, k + 1, a, b, h1, h2, h3 => by
   rw [leL, leL_no (k := k) (by simpa using h1) (by simpa using h2) h3, Bool.and_false]
theorem leL_zeros : ∀ (l : List Rat), leL (List.replicate l.length 0) l = nnL l
 | [] => rfl
 | a :: l => by
   rw [List.length_cons, List.replicate_succ, leL, leL_zeros l]
   rfl
def colL (A : List (List Rat)) (j : Nat) : List Rat := A.map (fun r => r.getD j 0)
def timesL (A : List (List Rat)) (x : List Rat) : List Rat := A.map (fun r => dotQ r x)
def befL (y : List Rat) (A : List (List Rat)) (n : Nat) : List Rat := (List.range n).map fun j => dotQ y (colL A j)
def belS (A : List (List Rat)) (C x lim : List Rat) : Bool := decide (x.length = C.length) && (nnL x && leL (timesL A x) lim)
def aboS (A : List (List Rat)) (B y lim : List Rat) : Bool := decide (y.length = B.length) && (nnL y && leL lim (befL y A lim.length))
def zer (n : Nat) : List Rat := List.replicate n 0
def certS (A : List (List Rat)) (B C : List Rat) (k : Int) (X Y R : List Rat) (V : Rat) : Bool :=
 if k = 0 then decide (R.length = 0) && (belS A C X B && (aboS A B Y C && (decide (dotQ C X = V) && decide (dotQ Y B = V))))
 else if k = 1 then decide (X.length = 0) && (decide (R.length = 0) && (decide (V = 0) && (aboS A B Y (zer C.length) && decide (dotQ Y B < 0))))
 else if k = 2 then decide (Y.length = 0) && (decide (V = 0) && (belS A C X B && (belS A C R (zer B.length) && decide (0 < dotQ C R))))
 else false
def matS (l : List Nat) : Int := if l.any (fun x => x != l.headD 0) then 11 else if 60 < l.length ∨ 60 < l.headD 0 then 8 else 0
def proS (l : List Nat) (b c : Nat) : Int := if matS l ≠ 0 then matS l else if b ≠ l.length ∨ (0 < l.length ∧ c ≠ l.headD 0) then 11 else if 60 < c then 8 else 0
end Go.Proofs.YthlfhfkfjefidaaGreat
/- Rows of fractions as they come in: in memory; brief of any row. -/
namespace Go.Proofs.YthlfhfkfjefidaaGreat
open Go.RowKit
structure RR where
 s1 : Bool
 A1 : Option Addr
 n1 : Nat
 c1 : Nat
 s2 : Bool
 A2 : Option Addr
 n2 : Nat
 c2 : Nat
 l1 : List Nat
 l2 : List Nat
def RR.q (r : RR) : Rat := frac (sg r.s1 (val r.l1)) (sg r.s2 (val r.l2))
def RR.short (r : RR) : Bool := decide (r.n1 ≤ 3) && decide (r.n2 ≤ 3)
def RR.v (r : RR) : Value := .agg #[.bool r.s1, .slice r.A1 r.n1 r.c1, .bool r.s2, .slice r.A2 r.n2 r.c2]
structure RRat (w : World) (b o : Nat) (r : RR) : Prop where
 ha : w.cell? ⟨b, o, none⟩ = some (.bool r.s1)
 hb : w.cell? ⟨b, o + 1, none⟩ = some (.slice r.A1 r.n1 r.c1)
 hc : w.cell? ⟨b, o + 2, none⟩ = some (.bool r.s2)
 hd : w.cell? ⟨b, o + 3, none⟩ = some (.slice r.A2 r.n2 r.c2)
 hl : Lim w w.heap.size r.A1 r.n1 r.c1 r.l1
 hm : Lim w w.heap.size r.A2 r.n2 r.c2 r.l2
structure RRs (w : World) (A : Option Addr) (n c : Nat) (L : List RR) : Prop where
 len : L.length = n
 cap : n ≤ c
 max : c ≤ 9223372036854775807
 at_ : ∀ k r, L[k]? = some r → ∃ b o, A = some ⟨b, o, none⟩ ∧ b < w.heap.size ∧ RRat w b (o + k * 4) r
theorem RRat.below {w w' : World} {b o : Nat} {r : RR} (h : RRat w b o r) (hb : Below w.heap.size w w') (hlt : b < w.heap.size) : RRat w' b o r :=
 ⟨(hb.cell (p := ⟨b, o, none⟩) hlt).trans h.ha, (hb.cell (p := ⟨b, o + 1, none⟩) hlt).trans h.hb, (hb.cell (p := ⟨b, o + 2, none⟩) hlt).trans h.hc, (hb.cell (p := ⟨b, o + 3, none⟩) hlt).trans h.hd, h.hl.below hb (Nat.le_refl _) hb.size, h.hm.below hb (Nat.le_refl _) hb.size⟩
theorem RRs.below {w w' : World} {A : Option Addr} {n c : Nat} {L : List RR} (h : RRs w A n c L) (hb : Below w.heap.size w w') : RRs w' A n c L :=
 ⟨h.len, h.cap, h.max, fun k r hk => by
   obtain ⟨b, o, e, hlt, hr⟩ := h.at_ k r hk
   exact ⟨b, o, e, Nat.lt_of_lt_of_le hlt hb.size, hr.below hb hlt⟩⟩
theorem RRat.rat {w : World} {b o : Nat} {r : RR} (h : RRat w b o r) (hs : r.short = true) : RatH w r.s1 r.A1 r.n1 r.c1 r.s2 r.A2 r.n2 r.c2 r.q 3 false := by
 unfold RR.short at hs
 simp only [Bool.and_eq_true, decide_eq_true_eq] at hs
 exact ⟨⟨r.l1, r.l2, fun w' hb => h.hl.below hb (Nat.le_refl _) hb.size, fun w' hb => h.hm.below hb (Nat.le_refl _) hb.size, rfl, fun h => by cases h⟩, hs.1, hs.2⟩
theorem all_take {L : List RR} {k : Nat} {r : RR} (h : L[k]? = some r) (ha : (L.take k).all RR.short = true) (hr : r.short = true) : (L.take (k + 1)).all RR.short = true := by
 obtain ⟨hk, e⟩ := List.getElem?_eq_some_iff.1 h
 rw [List.take_succ_eq_append_getElem hk, List.all_append, ha, e]
 simp [hr]
theorem all_not {L : List RR} {k : Nat} {r : RR} (h : L[k]? = some r) (hr : r.short = false) : L.all RR.short = false := by
 have hm : r ∈ L := List.mem_of_getElem? h
 rcases hb : L.all RR.short with _ | _
 · rfl
 · have := List.all_eq_true.1 hb r hm
   rw [hr] at this
   cases this
set_option maxRecDepth 100000 in
set_option maxHeartbeats 1600000 in
theorem brief_any {w : World} {A : Option Addr} {n c : Nat} {L : List RR} (h : RRs w A n c L) (hn : n ≤ 1000) :
 Calls Tryz.prog 24 #[.slice A n c] w fun e w' => w = w' ∧ e = .returned (.bool (L.all RR.short)) := by
 have hcap := h.cap
 have hmax := h.max
 have HL := Lib.hid h.len
 have HA := Lib.hid h.at_
 clear h
 go_enter Tryz.func24, Tryz.ntmps24
 go_wp2
 go_loop [3] (fun v3 => ∃ (k : Nat), k ≤ n ∧ v3 = .int .i64 (k : Int) ∧ Hid ((L.take k).all RR.short = true)) (fun v3 => n - (intOf v3).toNat)
 case atStart => exact ⟨0, Nat.zero_le _, rfl, Lib.hid rfl⟩
 case round =>
  obtain ⟨k, hk, rfl, HT⟩ := hrel
  rcases Nat.lt_or_ge k n with hlt | hge
  · obtain ⟨r, hr⟩ : ∃ r, L[k]? = some r := ⟨L[k]'(by rw [HL.out]; exact hlt), List.getElem?_eq_getElem _⟩
    obtain ⟨b, o, rfl, hbl, hra⟩ := HA.out k r hr
    obtain ⟨c1, c2⟩ := And.intro hra.hb hra.hd
    have zk : (0 : Int) ≤ (k : Int) := by omega
    have zn : (k : Int) < (n : Int) := by omega
    have HR := Lib.hid hr
    by_cases q1 : r.n1 ≤ 3
    · have r1 : ¬ (3 : Int) < (r.n1 : Int) := by omega
      by_cases q2 : r.n2 ≤ 3
      · have r2 : ¬ (3 : Int) < (r.n2 : Int) := by omega
        have HN : Hid ((L.take (k + 1)).all RR.short = true) := Lib.hid (all_take hr HT.out (by unfold RR.short; rw [decide_eq_true q1, decide_eq_true q2]; rfl))
        clear hr hra q1 q2 HT
        go_wp2
        go_round
        case rel => exact ⟨k + 1, by omega, by go_num, HN⟩
        case measure => simp [intOf]; omega
      · have r2 : (3 : Int) < (r.n2 : Int) := by omega
        have HN : Hid (L.all RR.short = false) := Lib.hid (all_not hr (by unfold RR.short; rw [decide_eq_false q2, Bool.and_false]))
        clear hr hra q1 q2 HT
        go_wp2
        go_ret
        exact ⟨rfl, by rw [HN.out]; rfl⟩
    · have r1 : (3 : Int) < (r.n1 : Int) := by omega
      have HN : Hid (L.all RR.short = false) := Lib.hid (all_not hr (by unfold RR.short; rw [decide_eq_false q1, Bool.false_and]))
      clear hr hra q1 HT
      go_wp2
      go_ret
      exact ⟨rfl, by rw [HN.out]; rfl⟩
  · obtain rfl : k = n := by omega
    have HN : Hid (L.all RR.short = true) := Lib.hid (by have := HT.out; rwa [← HL.out, List.take_length] at this)
    clear HT
    go_wp2
    go_ret
    exact ⟨rfl, by rw [HN.out]; rfl⟩
end Go.Proofs.YthlfhfkfjefidaaGreat
/- Rows of fractions and of integers in memory: without a walk. -/
namespace Go.Proofs.YthlfhfkfjefidaaGreat
open Go Go.RowKit
theorem RatH.aft {w0 w : World} {s1 : Bool} {A1 : Option Addr} {n1 c1 : Nat} {s2 : Bool} {A2 : Option Addr} {n2 c2 : Nat} {x : Rat} {K : Nat} {nf : Bool} (h : RatH w0 s1 A1 n1 c1 s2 A2 n2 c2 x K nf) (hb : Below w0.heap.size w0 w) : RatH w s1 A1 n1 c1 s2 A2 n2 c2 x K nf := by
 obtain ⟨l1, l2, h1, h2, h3, h4⟩ := h.lim
 exact ⟨⟨l1, l2, fun w' hb' => h1 w' (below_to hb hb' hb.size), fun w' hb' => h2 w' (below_to hb hb' hb.size), h3, h4⟩, h.len1, h.len2⟩
theorem RatH.wid {w0 : World} {s1 : Bool} {A1 : Option Addr} {n1 c1 : Nat} {s2 : Bool} {A2 : Option Addr} {n2 c2 : Nat} {x : Rat} {K K' : Nat} {nf : Bool} (h : RatH w0 s1 A1 n1 c1 s2 A2 n2 c2 x K nf) (hk : K ≤ K') : RatH w0 s1 A1 n1 c1 s2 A2 n2 c2 x K' nf := ⟨h.lim, Nat.le_trans h.len1 hk, Nat.le_trans h.len2 hk⟩
def nou (cs : Array Value) : Prop := ∀ (k : Nat) (z : Int), cs[k]? ≠ some (.int .u32 z)
structure Chg (g : Nat) (w w' : World) : Prop where
 sz : w'.heap.size = w.heap.size
 cl : ∀ p : Addr, p.block ≠ g → w'.cell? p = w.cell? p
 bk : ∀ k t cs, k ≠ g → Bk w k t cs → Bk w' k t cs
theorem Chg.refl (g : Nat) (w : World) : Chg g w w := ⟨rfl, fun _ _ => rfl, fun _ _ _ _ h => h⟩
theorem Chg.set {g : Nat} {w w' : World} (h : Chg g w w') (o : Nat) (u : Value) : Chg g w (w'.setCell ⟨g, o, none⟩ u) :=
 ⟨by rw [← h.sz]; simp [World.setCell], fun p hp => (World.cell?_setCell_other w' _ _ u (fun e => hp (by rw [← e]))).trans (h.cl p hp), fun k t cs hk hb => (h.bk k t cs hk hb).other hk u⟩
theorem nou_set {cs : Array Value} (h : nou cs) (i : Nat) (u : Value) (hu : ∀ z, u ≠ .int .u32 z) : nou (cs.setIfInBounds i u) := fun k z e => by
 rw [Array.getElem?_setIfInBounds] at e
 split at e
 · split at e
   · exact hu z (Option.some.inj e)
   · cases e
 · exact h k z e
section
variable {w w' w0 : World} {s : Bool} {A : Option Addr} {n c : Nat} {z : Int} {K : Nat} {nf : Bool} {g t : Nat} {cs : Array Value}
theorem IntH.chg (h : IntH w s A n c z K nf) (hb : Bk w g t cs) (hn : nou cs) (hc : Chg g w w') : IntH w' s A n c z K nf := by
 obtain ⟨l, h1, h2, h3⟩ := h.lim
 exact ⟨⟨l, fun u hu => ((h1 w (Below.refl _ _)).other hb hn hc.cl).below hu (by rw [hc.sz]; exact Nat.le_refl _) (by have := hu.size; rw [hc.sz] at this; exact this), h2, h3⟩, h.len⟩
theorem RatH.chg {s1 : Bool} {A1 : Option Addr} {n1 c1 : Nat} {s2 : Bool} {A2 : Option Addr} {n2 c2 : Nat} {x : Rat} (h : RatH w s1 A1 n1 c1 s2 A2 n2 c2 x K nf) (hb : Bk w g t cs) (hn : nou cs) (hc : Chg g w w') : RatH w' s1 A1 n1 c1 s2 A2 n2 c2 x K nf := by
 obtain ⟨l1, l2, h1, h2, h3, h4⟩ := h.lim
 exact ⟨⟨l1, l2, fun u hu => ((h1 w (Below.refl _ _)).other hb hn hc.cl).below hu (by rw [hc.sz]; exact Nat.le_refl _) (by have := hu.size; rw [hc.sz] at this; exact this),
  fun u hu => ((h2 w (Below.refl _ _)).other hb hn hc.cl).below hu (by rw [hc.sz]; exact Nat.le_refl _) (by have := hu.size; rw [hc.sz] at this; exact this), h3, h4⟩, h.len1, h.len2⟩
theorem IntH.widn {K' : Nat} (h : IntH w s A n c z K nf) (hk : K ≤ K') : IntH w s A n c z K' nf := ⟨h.lim, Nat.le_trans h.len hk⟩
theorem IntH.soft (h : IntH w s A n c z K nf) : IntH w s A n c z K false := by
 obtain ⟨l, h1, h2, h3⟩ := h.lim
 exact ⟨⟨l, h1, h2, fun h => by cases h⟩, h.len⟩
theorem RatH.soft {s1 : Bool} {A1 : Option Addr} {n1 c1 : Nat} {s2 : Bool} {A2 : Option Addr} {n2 c2 : Nat} {x : Rat} (h : RatH w s1 A1 n1 c1 s2 A2 n2 c2 x K nf) : RatH w s1 A1 n1 c1 s2 A2 n2 c2 x K false := by
 obtain ⟨l1, l2, h1, h2, h3, h4⟩ := h.lim
 exact ⟨⟨l1, l2, h1, h2, h3, fun h => by cases h⟩, h.len1, h.len2⟩
theorem IntH.zero_ (w : World) (K : Nat) (nf : Bool) : IntH w false none 0 0 0 K nf :=
 ⟨⟨[], fun u _ => Lim.nil_ u _, by simp [sg, val], fun _ => ⟨by intro h; simp at h, fun h => by cases h⟩⟩, Nat.zero_le _⟩
theorem RatH.zero_ (w : World) (K : Nat) : RatH w false none 0 0 false none 0 0 0 K false :=
 ⟨⟨[], [], fun u _ => Lim.nil_ u _, fun u _ => Lim.nil_ u _, by simp [sg, val, frac], fun h => by cases h⟩, Nat.zero_le _, Nat.zero_le _⟩
end
structure FAt (w : World) (b o : Nat) (x : Rat) (K : Nat) (s1 : Bool) (A1 : Option Addr) (n1 c1 : Nat) (s2 : Bool) (A2 : Option Addr) (n2 c2 : Nat) : Prop where
 ha : w.cell? ⟨b, o, none⟩ = some (.bool s1)
 hb : w.cell? ⟨b, o + 1, none⟩ = some (.slice A1 n1 c1)
 hc : w.cell? ⟨b, o + 2, none⟩ = some (.bool s2)
 hd : w.cell? ⟨b, o + 3, none⟩ = some (.slice A2 n2 c2)
 r : RatH w s1 A1 n1 c1 s2 A2 n2 c2 x K false
theorem FAt.later {w w' : World} {b o : Nat} {x : Rat} {K : Nat} {s1 : Bool} {A1 : Option Addr} {n1 c1 : Nat} {s2 : Bool} {A2 : Option Addr} {n2 c2 : Nat} (h : FAt w b o x K s1 A1 n1 c1 s2 A2 n2 c2) (hb : Below w.heap.size w w') (hlt : b < w.heap.size) : FAt w' b o x K s1 A1 n1 c1 s2 A2 n2 c2 :=
 ⟨(hb.cell (p := ⟨b, o, none⟩) hlt).trans h.ha, (hb.cell (p := ⟨b, o + 1, none⟩) hlt).trans h.hb, (hb.cell (p := ⟨b, o + 2, none⟩) hlt).trans h.hc, (hb.cell (p := ⟨b, o + 3, none⟩) hlt).trans h.hd, h.r.aft hb⟩
structure Rts (w : World) (A : Option Addr) (n c : Nat) (L : List Rat) (K : Nat) : Prop where
 len : L.length = n
 cap : n ≤ c
 max : c ≤ 9223372036854775807
 at_ : ∀ (k : Nat) (x : Rat), L[k]? = some x → ∃ b o s1 A1 n1 c1 s2 A2 n2 c2, A = some ⟨b, o, none⟩ ∧ b < w.heap.size ∧ FAt w b (o + k * 4) x K s1 A1 n1 c1 s2 A2 n2 c2
theorem Rts.later {w w' : World} {A : Option Addr} {n c K : Nat} {L : List Rat} (h : Rts w A n c L K) (hb : Below w.heap.size w w') : Rts w' A n c L K :=
 ⟨h.len, h.cap, h.max, fun k x hk => by
   obtain ⟨b, o, s1, A1, n1, c1, s2, A2, n2, c2, e, hlt, hr⟩ := h.at_ k x hk
   exact ⟨b, o, s1, A1, n1, c1, s2, A2, n2, c2, e, Nat.lt_of_lt_of_le hlt hb.size, hr.later hb hlt⟩⟩
theorem Rts.wide {w : World} {A : Option Addr} {n c K K' : Nat} {L : List Rat} (h : Rts w A n c L K) (hk : K ≤ K') : Rts w A n c L K' :=
 ⟨h.len, h.cap, h.max, fun k x hk' => by
   obtain ⟨b, o, s1, A1, n1, c1, s2, A2, n2, c2, e, hlt, hr⟩ := h.at_ k x hk'
   exact ⟨b, o, s1, A1, n1, c1, s2, A2, n2, c2, e, hlt, hr.ha, hr.hb, hr.hc, hr.hd, hr.r.wid hk⟩⟩
theorem Rts.nil_ (w : World) (K : Nat) : Rts w none 0 0 [] K := ⟨rfl, Nat.le_refl _, by omega, fun k x hk => by simp at hk⟩
theorem RRs.rts {w : World} {A : Option Addr} {n c : Nat} {L : List RR} (h : RRs w A n c L) (ha : L.all RR.short = true) : Rts w A n c (L.map RR.q) 3 :=
 ⟨by rw [List.length_map]; exact h.len, h.cap, h.max, fun k x hk => by
   rw [List.getElem?_map] at hk
   obtain ⟨r, hr, rfl⟩ := Option.map_eq_some_iff.1 hk
   obtain ⟨b, o, e, hlt, hq⟩ := h.at_ k r hr
   have hs := List.all_eq_true.1 ha r (List.mem_of_getElem? hr)
   exact ⟨b, o, _, _, _, _, _, _, _, _, e, hlt, hq.ha, hq.hb, hq.hc, hq.hd, hq.rat hs⟩⟩
structure RowI (w : World) (g n : Nat) (N : List Int) (K : Nat → Nat) : Prop where
 len : N.length = n
 ex : ∃ cur, Bk w g 24 cur ∧ cur.size = n * 2 ∧ nou cur ∧ ∀ (k : Nat) (z : Int), N[k]? = some z → ∃ s A m c, cur[k * 2]? = some (.bool s) ∧ cur[k * 2 + 1]? = some (.slice A m c) ∧ IntH w s A m c z (K k) false
structure RowR (w : World) (g n : Nat) (L : List Rat) (K : Nat) : Prop where
 len : L.length = n
 ex : ∃ cur, Bk w g 41 cur ∧ cur.size = n * 4 ∧ nou cur ∧ ∀ (k : Nat) (x : Rat), L[k]? = some x → ∃ s1 A1 n1 c1 s2 A2 n2 c2, cur[k * 4]? = some (.bool s1) ∧ cur[k * 4 + 1]? = some (.slice A1 n1 c1) ∧ cur[k * 4 + 2]? = some (.bool s2) ∧ cur[k * 4 + 3]? = some (.slice A2 n2 c2) ∧ RatH w s1 A1 n1 c1 s2 A2 n2 c2 x K false
section
variable {w w' : World} {g g2 t2 n : Nat} {N : List Int} {L : List Rat} {cs : Array Value}
section
variable {K K' : Nat → Nat}
theorem RowI.lt (h : RowI w g n N K) : g < w.heap.size := by obtain ⟨cur, hb, -⟩ := h.ex; exact hb.lt
theorem RowI.later (h : RowI w g n N K) (hb : Below w.heap.size w w') : RowI w' g n N K := by
 obtain ⟨cur, h1, h2, h3, h4⟩ := h.ex
 exact ⟨h.len, cur, h1.below hb h1.lt, h2, h3, fun k z hk => by
  obtain ⟨s, A, m, c, e1, e2, hi⟩ := h4 k z hk
  exact ⟨s, A, m, c, e1, e2, hi.later hb⟩⟩
theorem RowI.chg (h : RowI w g n N K) (hne : g ≠ g2) (hb : Bk w g2 t2 cs) (hn : nou cs) (hc : Chg g2 w w') : RowI w' g n N K := by
 obtain ⟨cur, h1, h2, h3, h4⟩ := h.ex
 exact ⟨h.len, cur, hc.bk _ _ _ hne h1, h2, h3, fun k z hk => by
  obtain ⟨s, A, m, c, e1, e2, hi⟩ := h4 k z hk
  exact ⟨s, A, m, c, e1, e2, hi.chg hb hn hc⟩⟩
theorem RowI.cells (h : RowI w g n N K) {k : Nat} {z : Int} (hk : N[k]? = some z) : ∃ s A m c, w.cell? ⟨g, k * 2, none⟩ = some (.bool s) ∧ w.cell? ⟨g, k * 2 + 1, none⟩ = some (.slice A m c) ∧ IntH w s A m c z (K k) false := by
 obtain ⟨cur, h1, h2, h3, h4⟩ := h.ex
 obtain ⟨s, A, m, c, e1, e2, hi⟩ := h4 k z hk
 exact ⟨s, A, m, c, (h1.cell _).trans e1, (h1.cell _).trans e2, hi⟩
theorem RowI.old (h : RowI w g n N K) {k : Nat} (hk : k < n) : ∃ u v, w.cell? ⟨g, k * 2, none⟩ = some u ∧ w.cell? ⟨g, k * 2 + 1, none⟩ = some v ∧ w.frozen? ⟨g, k * 2, none⟩ = false ∧ w.frozen? ⟨g, k * 2 + 1, none⟩ = false := by
 obtain ⟨cur, h1, h2, h3, h4⟩ := h.ex
 exact ⟨_, _, (h1.cell _).trans (Array.getElem?_eq_getElem (by omega)), (h1.cell _).trans (Array.getElem?_eq_getElem (by omega)), h1.frozen _, h1.frozen _⟩
theorem RowI.set (h : RowI w g n N K) {k : Nat} (hk : k < n) {s : Bool} {A : Option Addr} {m c : Nat} {z : Int} (hi : IntH w s A m c z (K' k) false) (hm : ∀ j, j ≠ k → K j ≤ K' j) : RowI ((w.setCell ⟨g, k * 2, none⟩ (.bool s)).setCell ⟨g, k * 2 + 1, none⟩ (.slice A m c)) g n (N.set k z) K' := by
 obtain ⟨cur, h1, h2, h3, h4⟩ := h.ex
 have hc : Chg g w ((w.setCell ⟨g, k * 2, none⟩ (.bool s)).setCell ⟨g, k * 2 + 1, none⟩ (.slice A m c)) := ((Chg.refl g w).set _ _).set _ _
 refine ⟨by rw [List.length_set]; exact h.len, _, (h1.set_ _ _).set_ _ _, by simp [h2], nou_set (nou_set h3 _ _ (fun z e => by cases e)) _ _ (fun z e => by cases e), fun j y hj => ?_⟩
 rw [List.getElem?_set] at hj
 have hl := h.len
 by_cases hjk : k = j
 · subst hjk
   rw [if_pos rfl, if_pos (by omega)] at hj
   obtain rfl : z = y := Option.some.inj hj
   exact ⟨s, A, m, c, by simp [Array.getElem?_setIfInBounds]; omega, by simp [Array.getElem?_setIfInBounds]; omega, hi.chg h1 h3 hc⟩
 · rw [if_neg hjk] at hj
   obtain ⟨s', A', m', c', e1, e2, hi'⟩ := h4 j y hj
   exact ⟨s', A', m', c', by rw [Array.getElem?_setIfInBounds_ne (by omega), Array.getElem?_setIfInBounds_ne (by omega)]; exact e1, by rw [Array.getElem?_setIfInBounds_ne (by omega), Array.getElem?_setIfInBounds_ne (by omega)]; exact e2, (hi'.chg h1 h3 hc).widn (hm j (Ne.symm hjk))⟩
end
variable {K : Nat}
theorem RowR.later (h : RowR w g n L K) (hb : Below w.heap.size w w') : RowR w' g n L K := by
 obtain ⟨cur, h1, h2, h3, h4⟩ := h.ex
 exact ⟨h.len, cur, h1.below hb h1.lt, h2, h3, fun k z hk => by
  obtain ⟨s1, A1, n1, c1, s2, A2, n2, c2, e1, e2, e3, e4, hi⟩ := h4 k z hk
  exact ⟨s1, A1, n1, c1, s2, A2, n2, c2, e1, e2, e3, e4, hi.aft hb⟩⟩
theorem RowR.old (h : RowR w g n L K) {k : Nat} (hk : k < n) : (∃ u v u' v', w.cell? ⟨g, k * 4, none⟩ = some u ∧ w.cell? ⟨g, k * 4 + 1, none⟩ = some v ∧ w.cell? ⟨g, k * 4 + 2, none⟩ = some u' ∧ w.cell? ⟨g, k * 4 + 3, none⟩ = some v') ∧ w.frozen? ⟨g, k * 4, none⟩ = false ∧ w.frozen? ⟨g, k * 4 + 1, none⟩ = false ∧ w.frozen? ⟨g, k * 4 + 2, none⟩ = false ∧ w.frozen? ⟨g, k * 4 + 3, none⟩ = false := by
 obtain ⟨cur, h1, h2, h3, h4⟩ := h.ex
 exact ⟨⟨_, _, _, _, (h1.cell _).trans (Array.getElem?_eq_getElem (by omega)), (h1.cell _).trans (Array.getElem?_eq_getElem (by omega)), (h1.cell _).trans (Array.getElem?_eq_getElem (by omega)), (h1.cell _).trans (Array.getElem?_eq_getElem (by omega))⟩, h1.frozen _, h1.frozen _, h1.frozen _, h1.frozen _⟩
theorem RowR.set (h : RowR w g n L K) {k : Nat} (hk : k < n) {s1 : Bool} {A1 : Option Addr} {n1 c1 : Nat} {s2 : Bool} {A2 : Option Addr} {n2 c2 : Nat} {x : Rat} (hi : RatH w s1 A1 n1 c1 s2 A2 n2 c2 x K false) : RowR ((((w.setCell ⟨g, k * 4, none⟩ (.bool s1)).setCell ⟨g, k * 4 + 1, none⟩ (.slice A1 n1 c1)).setCell ⟨g, k * 4 + 2, none⟩ (.bool s2)).setCell ⟨g, k * 4 + 3, none⟩ (.slice A2 n2 c2)) g n (L.set k x) K := by
 obtain ⟨cur, h1, h2, h3, h4⟩ := h.ex
 have hc : Chg g w ((((w.setCell ⟨g, k * 4, none⟩ (.bool s1)).setCell ⟨g, k * 4 + 1, none⟩ (.slice A1 n1 c1)).setCell ⟨g, k * 4 + 2, none⟩ (.bool s2)).setCell ⟨g, k * 4 + 3, none⟩ (.slice A2 n2 c2)) := ((((Chg.refl g w).set _ _).set _ _).set _ _).set _ _
 refine ⟨by rw [List.length_set]; exact h.len, _, (((h1.set_ _ _).set_ _ _).set_ _ _).set_ _ _, by simp [h2], nou_set (nou_set (nou_set (nou_set h3 _ _ (fun z e => by cases e)) _ _ (fun z e => by cases e)) _ _ (fun z e => by cases e)) _ _ (fun z e => by cases e), fun j y hj => ?_⟩
 rw [List.getElem?_set] at hj
 have hl := h.len
 by_cases hjk : k = j
 · subst hjk
   rw [if_pos rfl, if_pos (by omega)] at hj
   obtain rfl : x = y := Option.some.inj hj
   exact ⟨s1, A1, n1, c1, s2, A2, n2, c2, by simp [Array.getElem?_setIfInBounds]; omega, by simp [Array.getElem?_setIfInBounds]; omega, by simp [Array.getElem?_setIfInBounds]; omega, by simp [Array.getElem?_setIfInBounds]; omega, hi.chg h1 h3 hc⟩
 · rw [if_neg hjk] at hj
   obtain ⟨t1, B1, m1, d1, t2, B2, m2, d2, e1, e2, e3, e4, hi'⟩ := h4 j y hj
   exact ⟨t1, B1, m1, d1, t2, B2, m2, d2, by rw [Array.getElem?_setIfInBounds_ne (by omega), Array.getElem?_setIfInBounds_ne (by omega), Array.getElem?_setIfInBounds_ne (by omega), Array.getElem?_setIfInBounds_ne (by omega)]; exact e1, by rw [Array.getElem?_setIfInBounds_ne (by omega), Array.getElem?_setIfInBounds_ne (by omega), Array.getElem?_setIfInBounds_ne (by omega), Array.getElem?_setIfInBounds_ne (by omega)]; exact e2, by rw [Array.getElem?_setIfInBounds_ne (by omega), Array.getElem?_setIfInBounds_ne (by omega), Array.getElem?_setIfInBounds_ne (by omega), Array.getElem?_setIfInBounds_ne (by omega)]; exact e3, by rw [Array.getElem?_setIfInBounds_ne (by omega), Array.getElem?_setIfInBounds_ne (by omega), Array.getElem?_setIfInBounds_ne (by omega), Array.getElem?_setIfInBounds_ne (by omega)]; exact e4, hi'.chg h1 h3 hc⟩
theorem RowR.rts (h : RowR w g n L K) (hn : n ≤ 9223372036854775807) : Rts w (some ⟨g, 0, none⟩) n n L K := by
 obtain ⟨cur, h1, h2, h3, h4⟩ := h.ex
 refine ⟨h.len, Nat.le_refl _, hn, fun k x hk => ?_⟩
 obtain ⟨s1, A1, n1, c1, s2, A2, n2, c2, e1, e2, e3, e4, hi⟩ := h4 k x hk
 exact ⟨g, 0, s1, A1, n1, c1, s2, A2, n2, c2, rfl, h1.lt, by rw [Nat.zero_add]; exact (h1.cell _).trans e1, by rw [Nat.zero_add]; exact (h1.cell _).trans e2, by rw [Nat.zero_add]; exact (h1.cell _).trans e3, by rw [Nat.zero_add]; exact (h1.cell _).trans e4, hi⟩
end
theorem made_get {z : Array Value} {q m j : Nat} (hz : z.size = q) (hq : 0 < q) (hj : j < m) : (madeCells z m)[j]? = z[j % q]? := by
 have hb : j % z.size < z.size := Nat.mod_lt _ (by omega)
 simp only [madeCells, Array.getElem?_map, Array.getElem?_range, hj, if_true, Option.map_some]
 rw [getElem!_pos z _ hb, ← hz, Array.getElem?_eq_getElem hb]
theorem rowI_new (w : World) (n : Nat) (K : Nat → Nat) : RowI (w.alloc (.cells (madeCells #[.bool false, .slice none 0 0] (n * 2)) 24)) w.heap.size n (List.replicate n 0) K := by
 refine ⟨List.length_replicate, _, Bk.alloc_ _ _ _, size_madeCells _ _, fun k z e => ?_, fun k z hk => ?_⟩
 · have hk : k < n * 2 := by
    have := (Array.getElem?_eq_some_iff.1 e).1
    rwa [size_madeCells] at this
   rw [made_get (q := 2) rfl (by omega) hk] at e
   rcases (show k % 2 = 0 ∨ k % 2 = 1 by omega) with h | h <;> rw [h] at e <;> simp at e
 · rw [List.getElem?_replicate] at hk
   split at hk
   · rename_i hlt
     obtain rfl : (0 : Int) = z := Option.some.inj hk
     refine ⟨false, none, 0, 0, ?_, ?_, IntH.zero_ _ _ _⟩
     · rw [made_get (q := 2) rfl (by omega) (by omega), show k * 2 % 2 = 0 by omega]; rfl
     · rw [made_get (q := 2) rfl (by omega) (by omega), show (k * 2 + 1) % 2 = 1 by omega]; rfl
   · cases hk
theorem rowR_new (w : World) (n K : Nat) : RowR (w.alloc (.cells (madeCells #[.bool false, .slice none 0 0, .bool false, .slice none 0 0] (n * 4)) 41)) w.heap.size n (List.replicate n 0) K := by
 refine ⟨List.length_replicate, _, Bk.alloc_ _ _ _, size_madeCells _ _, fun k z e => ?_, fun k z hk => ?_⟩
 · have hk : k < n * 4 := by
    have := (Array.getElem?_eq_some_iff.1 e).1
    rwa [size_madeCells] at this
   rw [made_get (q := 4) rfl (by omega) hk] at e
   rcases (show k % 4 = 0 ∨ k % 4 = 1 ∨ k % 4 = 2 ∨ k % 4 = 3 by omega) with h | h | h | h <;> rw [h] at e <;> simp at e
 · rw [List.getElem?_replicate] at hk
   split at hk
   · rename_i hlt
     obtain rfl : (0 : Rat) = z := Option.some.inj hk
     refine ⟨false, none, 0, 0, false, none, 0, 0, ?_, ?_, ?_, ?_, RatH.zero_ _ _⟩
     · rw [made_get (q := 4) rfl (by omega) (by omega), show k * 4 % 4 = 0 by omega]; rfl
     · rw [made_get (q := 4) rfl (by omega) (by omega), show (k * 4 + 1) % 4 = 1 by omega]; rfl
     · rw [made_get (q := 4) rfl (by omega) (by omega), show (k * 4 + 2) % 4 = 2 by omega]; rfl
     · rw [made_get (q := 4) rfl (by omega) (by omega), show (k * 4 + 3) % 4 = 3 by omega]; rfl
   · cases hk
theorem info_int : (Tryz.prog.info? 24).map (fun i => (i.zero, i.size, i.bytes)) = some (some (.agg #[.bool false, .slice none 0 0]), 2, 32) := by kernel_rfl
theorem info_rat : (Tryz.prog.info? 41).map (fun i => (i.zero, i.size, i.bytes)) = some (some (.agg #[.bool false, .slice none 0 0, .bool false, .slice none 0 0]), 4, 64) := by kernel_rfl
theorem info_trio {P : Program} {t : TypeId} {z : Option Value} {s b : Nat} (h : (P.info? t).map (fun i => (i.zero, i.size, i.bytes)) = some (z, s, b)) : ∃ i0, P.info? t = some i0 ∧ i0.zero = z ∧ i0.size = s ∧ i0.bytes = b := by
 obtain ⟨i0, h0, h1⟩ := Option.map_eq_some_iff.1 h
 simp only [Prod.mk.injEq] at h1
 exact ⟨i0, h0, h1.1, h1.2.1, h1.2.2⟩
theorem makeI_run (n : Nat) (hn : n ≤ 1000000) (w : World) : (Instr.makeSlice 68 (.int .i64 (n : Int)) (.int .i64 (n : Int))).run Tryz.prog w = .ok (.slice (some ⟨w.heap.size, 0, none⟩) n n) (w.alloc (.cells (madeCells #[.bool false, .slice none 0 0] (n * 2)) 24)) := by
 obtain ⟨i0, hi, hz, hs, hb⟩ := info_trio info_int
 have hr := run_make (P := Tryz.prog) w 68 24 i0 _ Tryz.underlying68 hi hz .i64 .i64 n n (by omega) (by omega) (by rw [hb]; omega) (by omega)
 simp only [Int.toNat_natCast, hs] at hr
 exact hr
theorem makeR_run (n : Nat) (hn : n ≤ 1000000) (w : World) : (Instr.makeSlice 58 (.int .i64 (n : Int)) (.int .i64 (n : Int))).run Tryz.prog w = .ok (.slice (some ⟨w.heap.size, 0, none⟩) n n) (w.alloc (.cells (madeCells #[.bool false, .slice none 0 0, .bool false, .slice none 0 0] (n * 4)) 41)) := by
 obtain ⟨i0, hi, hz, hs, hb⟩ := info_trio info_rat
 have hr := run_make (P := Tryz.prog) w 58 41 i0 _ Tryz.underlying58 hi hz .i64 .i64 n n (by omega) (by omega) (by rw [hb]; omega) (by omega)
 simp only [Int.toNat_natCast, hs] at hr
 exact hr
end Go.Proofs.YthlfhfkfjefidaaGreat
/- Vectors, the program: the sum of the products of two vectors. -/
namespace Go.Proofs.YthlfhfkfjefidaaGreat
open Go Go.RowKit
structure Its (w : World) (A : Option Addr) (n c : Nat) (N : List Int) (K : Nat) : Prop where
 len : N.length = n
 cap : n ≤ c
 max : c ≤ 9223372036854775807
 at_ : ∀ (k : Nat) (z : Int), N[k]? = some z → ∃ b o s A' m e, A = some ⟨b, o, none⟩ ∧ b < w.heap.size ∧ w.cell? ⟨b, o + k * 2, none⟩ = some (.bool s) ∧ w.cell? ⟨b, o + k * 2 + 1, none⟩ = some (.slice A' m e) ∧ IntH w s A' m e z K false
theorem Its.later {w w' : World} {A : Option Addr} {n c K : Nat} {N : List Int} (h : Its w A n c N K) (hb : Below w.heap.size w w') : Its w' A n c N K :=
 ⟨h.len, h.cap, h.max, fun k z hk => by
   obtain ⟨b, o, s, A', m, e, rfl, hlt, h1, h2, hi⟩ := h.at_ k z hk
   exact ⟨b, o, s, A', m, e, rfl, Nat.lt_of_lt_of_le hlt hb.size, (hb.cell (p := ⟨b, o + k * 2, none⟩) hlt).trans h1, (hb.cell (p := ⟨b, o + k * 2 + 1, none⟩) hlt).trans h2, hi.later hb⟩⟩
theorem RowI.its {w : World} {g n K0 : Nat} {K : Nat → Nat} {N : List Int} (h : RowI w g n N K) (hn : n ≤ 9223372036854775807) (hk : ∀ j, j < n → K j ≤ K0) : Its w (some ⟨g, 0, none⟩) n n N K0 := by
 obtain ⟨cur, h1, h2, h3, h4⟩ := h.ex
 refine ⟨h.len, Nat.le_refl _, hn, fun k x hk' => ?_⟩
 obtain ⟨s, A, m, c, e1, e2, hi⟩ := h4 k x hk'
 exact ⟨g, 0, s, A, m, c, rfl, h1.lt, by rw [Nat.zero_add]; exact (h1.cell _).trans e1, by rw [Nat.zero_add]; exact (h1.cell _).trans e2, hi.widn (hk k (by rw [← h.len]; exact (List.getElem?_eq_some_iff.1 hk').1))⟩
theorem RatH.of_two {w : World} {s1 s2 : Bool} {A1 A2 : Option Addr} {n1 c1 n2 c2 K : Nat} {p q : Int} {f1 f2 : Bool} (h1 : IntH w s1 A1 n1 c1 p K f1) (h2 : IntH w s2 A2 n2 c2 q K f2) (hq : 0 < q) : RatH w s1 A1 n1 c1 s2 A2 n2 c2 (Rat.divInt p q) K false := by
 obtain ⟨l1, g1, e1, -⟩ := h1.lim
 obtain ⟨l2, g2, e2, -⟩ := h2.lim
 refine ⟨⟨l1, l2, g1, g2, ?_, fun h => by cases h⟩, h1.len, h2.len⟩
 rw [← e1, ← e2]
 unfold frac
 rw [if_neg (by omega)]
theorem Bk.trio {w : World} {g t : Nat} {a b c : Value} (h : Bk w g t #[a, b, c]) : w.cell? ⟨g, 0, none⟩ = some a ∧ w.cell? ⟨g, 1, none⟩ = some b ∧ w.cell? ⟨g, 2, none⟩ = some c := ⟨by simpa using h.cell 0, by simpa using h.cell 1, by simpa using h.cell 2⟩
set_option maxRecDepth 100000 in
set_option maxHeartbeats 4000000 in
theorem dot_any {w : World} {A1 A2 B1 B2 : Option Addr} {n c1 c2 m1 e1 m2 e2 K1 K2 D1 D2 : Nat} {s1 s2 : Bool} {N M : List Int} {d1 d2 : Int} {f1 f2 : Bool} (h1 : Its w A1 n c1 N K1) (h2 : Its w A2 n c2 M K2) (i1 : IntH w s1 B1 m1 e1 d1 D1 f1) (i2 : IntH w s2 B2 m2 e2 d2 D2 f2) (p1 : 0 < d1) (p2 : 0 < d2) (hn : n ≤ 8) (hk1 : K1 ≤ 50) (hk2 : K2 ≤ 50) (hd1 : D1 ≤ 500) (hd2 : D2 ≤ 500) :
 Calls Tryz.prog 138 #[.agg #[.slice (A1) n c1, .bool s1, .slice B1 m1 e1], .agg #[.slice (A2) n c2, .bool s2, .slice B2 m2 e2]] w fun e w' => Below w.heap.size w w' ∧ ∃ s1 A1 n1 c1 s2 A2 n2 c2, e = .returned (.agg #[.bool s1, .slice A1 n1 c1, .bool s2, .slice A2 n2 c2]) ∧ RatH w' s1 A1 n1 c1 s2 A2 n2 c2 (Rat.divInt (dotI N M) (d1 * d2)) (n * (K1 + K2 + 1) + (D1 + D2)) false := by
 have hcap1 := h1.cap
 have hmax1 := h1.max
 have hcap2 := h2.cap
 have hmax2 := h2.max
 have HL1 := Lib.hid h1.len
 have HL2 := Lib.hid h2.len
 have H1 := Lib.hid h1
 have H2 := Lib.hid h2
 have I1 := Lib.hid i1
 have I2 := Lib.hid i2
 clear h1 h2 i1 i2
 go_enter Tryz.func138, Tryz.ntmps138
 go_upto_region 2 with fail
 obtain ⟨W, hW⟩ : ∃ W, W = ((((w.alloc (.cells #[.slice (A1) n c1, .bool s1, .slice B1 m1 e1] 151)).alloc (.cells #[.slice (A2) n c2, .bool s2, .slice B2 m2 e2] 151)).alloc (.cells #[.bool false, .slice none 0 0, .bool false, .slice none 0 0] 41)).alloc (.cells #[.bool false, .slice none 0 0] 24)) := ⟨_, rfl⟩
 have HBW : Hid (Below w.heap.size w W) := Lib.hid (by rw [hW]; exact bl)
 have HXW : Hid (Bk W w.heap.size 151 #[.slice (A1) n c1, .bool s1, .slice B1 m1 e1]) := Lib.hid (by rw [hW]; exact bk)
 have HYW : Hid (Bk W (w.heap.size + 1) 151 #[.slice (A2) n c2, .bool s2, .slice B2 m2 e2]) := Lib.hid (by rw [hW]; exact bk)
 have HRW : Hid (Bk W (w.heap.size + 1 + 1) 41 #[.bool false, .slice none 0 0, .bool false, .slice none 0 0]) := Lib.hid (by rw [hW]; exact bk)
 have HSW : Hid (Bk W (w.heap.size + 1 + 1 + 1) 24 #[.bool false, .slice none 0 0]) := Lib.hid (by rw [hW]; exact bk)
 rw [← hW]
 clear hW
 obtain ⟨x0, -⟩ := HXW.out.trio
 go_wp2
 clear x0
 go_loopw [6, 7, 12] (fun _ _ v12 wr => ∃ (k : Nat) (s : Bool) (A : Option Addr) (m c : Nat), k ≤ n ∧ v12 = .int .i64 (k : Int) ∧ Bk wr w.heap.size 151 #[.slice (A1) n c1, .bool s1, .slice B1 m1 e1] ∧ Bk wr (w.heap.size + 1) 151 #[.slice (A2) n c2, .bool s2, .slice B2 m2 e2] ∧ Bk wr (w.heap.size + 1 + 1) 41 #[.bool false, .slice none 0 0, .bool false, .slice none 0 0] ∧ Bk wr (w.heap.size + 1 + 1 + 1) 24 #[.bool s, .slice A m c] ∧ IntH wr s A m c (dotI (N.take k) (M.take k)) (k * (K1 + K2 + 1)) true ∧ Below w.heap.size w wr) (fun _ _ v12 _ => n - (intOf v12).toNat)
 case atStart => exact ⟨0, false, none, 0, 0, Nat.zero_le _, rfl, HXW.out, HYW.out, HRW.out, HSW.out, by simpa [dotI] using IntH.zero_ W _ true, HBW.out⟩
 case round =>
  obtain ⟨k, s, A, m, c, hk, rfl, hx, hy, hr, hs, hi, hb⟩ := hrel
  obtain ⟨wo, hwo⟩ : ∃ z, z = wr := ⟨_, rfl⟩
  subst hwo
  have hkn : k * (K1 + K2 + 1) ≤ 808 := by
   calc k * (K1 + K2 + 1) ≤ 8 * 101 := Nat.mul_le_mul (by omega) (by omega)
    _ = 808 := rfl
  have HX := Lib.hid hx
  have HY := Lib.hid hy
  have HR := Lib.hid hr
  have HS := Lib.hid hs
  have HI := Lib.hid hi
  have HB := Lib.hid hb
  clear hx hy hr hs hi hb
  have ow := HB.out.size
  rcases Nat.lt_or_ge k n with hlt | hge
  · obtain ⟨z, hz⟩ : ∃ z, N[k]? = some z := ⟨N[k]'(by rw [HL1.out]; exact hlt), List.getElem?_eq_getElem _⟩
    obtain ⟨u, hu⟩ : ∃ z, M[k]? = some z := ⟨M[k]'(by rw [HL2.out]; exact hlt), List.getElem?_eq_getElem _⟩
    obtain ⟨b1, o1, sx, Ax, nx, cx, rfl, hb1, x1, x2, ix⟩ := H1.out.at_ k z hz
    obtain ⟨b2, o2, sy, Ay, ny, cy, rfl, hb2, y1, y2, iy⟩ := H2.out.at_ k u hu
    have HSTEP := Lib.hid (dotI_take hz hu)
    have IX := Lib.hid (ix.later HB.out)
    have IY := Lib.hid (iy.later HB.out)
    have HE : Hid (∀ w', Below w.heap.size w w' → w'.cell? ⟨b2, o2 + k * 2, none⟩ = some (.bool sy) ∧ w'.cell? ⟨b2, o2 + k * 2 + 1, none⟩ = some (.slice Ay ny cy)) := Lib.hid fun w' hb' => ⟨(hb'.cell (p := ⟨b2, o2 + k * 2, none⟩) hb2).trans y1, (hb'.cell (p := ⟨b2, o2 + k * 2 + 1, none⟩) hb2).trans y2⟩
    replace x1 := (HB.out.cell (p := ⟨b1, o1 + k * 2, none⟩) hb1).trans x1
    replace x2 := (HB.out.cell (p := ⟨b1, o1 + k * 2 + 1, none⟩) hb1).trans x2
    clear hz hu ix iy y1 y2
    have zk : (0 : Int) ≤ (k : Int) := by omega
    have zn : (k : Int) < (n : Int) := by omega
    go_upto_region 5 with fail
    obtain ⟨g7, hg7⟩ : ∃ g, g = wo.heap.size := ⟨_, rfl⟩
    rw [← hg7]
    obtain ⟨Wa, hWa⟩ : ∃ W, W = wo.alloc (.cells #[.bool sx, .slice Ax nx cx] 24) := ⟨_, rfl⟩
    have hBa : Below wo.heap.size wo Wa := by rw [hWa]; exact below_alloc1 _ _
    have H7a : Hid (Bk Wa g7 24 #[.bool sx, .slice Ax nx cx]) := Lib.hid (by rw [hWa]; exact Bk.at_ hg7.symm)
    rw [← hWa]
    have hne : w.heap.size + 1 + 1 + 1 < g7 := by have := HS.out.lt; omega
    clear hWa hg7
    have HBa := Lib.hid (below_to HB.out hBa HB.out.size); have HXa := Lib.hid (HX.out.below hBa HX.out.lt); have HYa := Lib.hid (HY.out.below hBa HY.out.lt); have HRa := Lib.hid (HR.out.below hBa HR.out.lt); have HSa := Lib.hid (HS.out.below hBa HS.out.lt)
    have IXa := Lib.hid (IX.out.later hBa)
    have IYa := Lib.hid (IY.out.later hBa)
    have IIa := Lib.hid (HI.out.later hBa)
    have HC : Hid ((fun w' : World => w'.cell? ⟨w.heap.size + 1 + 1 + 1, 0, none⟩ = some (.bool s) ∧ w'.cell? ⟨w.heap.size + 1 + 1 + 1, 1, none⟩ = some (.slice A m c) ∧ w'.cell? ⟨g7, 0, none⟩ = some (.bool sx) ∧ w'.cell? ⟨g7, 1, none⟩ = some (.slice Ax nx cx) ∧ w'.cell? ⟨w.heap.size + 1, 0, none⟩ = some (.slice (some ⟨b2, o2, none⟩) n c2) ∧ w'.cell? ⟨b2, o2 + k * 2, none⟩ = some (.bool sy) ∧ w'.cell? ⟨b2, o2 + k * 2 + 1, none⟩ = some (.slice Ay ny cy)) Wa.drew) := Lib.hid ⟨HSa.out.duo.1, HSa.out.duo.2, H7a.out.duo.1, H7a.out.duo.2, HYa.out.trio.1, HE.out _ (Below.drew HBa.out)⟩
    clear x1 x2
    refine region_goes (n := 10) (fun w' : World => w'.cell? ⟨w.heap.size + 1 + 1 + 1, 0, none⟩ = some (.bool s) ∧ w'.cell? ⟨w.heap.size + 1 + 1 + 1, 1, none⟩ = some (.slice A m c) ∧ w'.cell? ⟨g7, 0, none⟩ = some (.bool sx) ∧ w'.cell? ⟨g7, 1, none⟩ = some (.slice Ax nx cx) ∧ w'.cell? ⟨w.heap.size + 1, 0, none⟩ = some (.slice (some ⟨b2, o2, none⟩) n c2) ∧ w'.cell? ⟨b2, o2 + k * 2, none⟩ = some (.bool sy) ∧ w'.cell? ⟨b2, o2 + k * 2 + 1, none⟩ = some (.slice Ay ny cy)) [9] (by kernel_rfl) rfl ?_
    refine goes_takeE (i := 0) (E := [8, 9]) (v := .agg #[.bool s, .slice A m c]) rfl (by kernel_rfl) rfl (fun _ _ _ h => h) (by intro w' hw'; obtain ⟨z0, z1, z2, z3, z4, z5, z6⟩ := hw'; go_simp) HC.out ?_
    refine goes_takeE (i := 1) (E := [7, 8, 9]) (v := .agg #[.bool sx, .slice Ax nx cx]) rfl (by kernel_rfl) rfl (fun _ _ _ h => h) (by intro w' hw'; obtain ⟨z0, z1, z2, z3, z4, z5, z6⟩ := hw'; go_simp) HC.out ?_
    refine goes_takeE (i := 2) (E := [3, 5, 6, 7, 8, 9]) (v := .pointer (some ⟨w.heap.size + 1, 0, none⟩)) rfl (by kernel_rfl) rfl (fun _ _ _ h => h) (by intro w' hw'; obtain ⟨z0, z1, z2, z3, z4, z5, z6⟩ := hw'; go_simp) HC.out ?_
    refine goes_takeE (i := 3) (E := [5, 6, 7, 8, 9]) (v := .slice (some ⟨b2, o2, none⟩) n c2) rfl (by kernel_rfl) rfl (fun _ _ _ h => h) (by intro w' hw'; obtain ⟨z0, z1, z2, z3, z4, z5, z6⟩ := hw'; go_simp) HC.out ?_
    refine goes_takeE (i := 4) (E := [5, 6, 7, 8, 9]) (v := .int .i64 (k : Int)) rfl (by kernel_rfl) rfl (fun _ _ _ h => h) (by intro w' hw'; obtain ⟨z0, z1, z2, z3, z4, z5, z6⟩ := hw'; go_simp) HC.out ?_
    refine goes_takeE (i := 5) (E := [6, 7, 8, 9]) (v := .pointer (some ⟨b2, o2 + k * 2, none⟩)) rfl (by kernel_rfl) rfl (fun _ _ _ h => h) (by intro w' hw'; obtain ⟨z0, z1, z2, z3, z4, z5, z6⟩ := hw'; go_simp) HC.out ?_
    refine goes_takeE (i := 6) (E := [7, 8, 9]) (v := .agg #[.bool sy, .slice Ay ny cy]) rfl (by kernel_rfl) rfl (fun _ _ _ h => h) (by intro w' hw'; obtain ⟨z0, z1, z2, z3, z4, z5, z6⟩ := hw'; go_simp) HC.out ?_
    refine goes_call (i := 7) rfl (by kernel_rfl) ?_
    go_wp2_with (go_at_call 18; go_loud (with_reducible refine (prodH IXa.out IYa.out (Below.drew (Below.refl _ _)) (Below.drew (Below.refl _ _)) (by omega) (by omega)).mono ?_; rintro e wp ⟨hbp0, sp, Ap, np, cp, rfl, ip⟩; have hbp := below_drew hbp0; have HBp := Lib.hid (below_to HBa.out hbp HBa.out.size); have HXp := Lib.hid (HXa.out.below hbp HXa.out.lt); have HYp := Lib.hid (HYa.out.below hbp HYa.out.lt); have HRp := Lib.hid (HRa.out.below hbp HRa.out.lt); have HSp := Lib.hid (HSa.out.below hbp HSa.out.lt); have H7p := Lib.hid (H7a.out.below hbp H7a.out.lt); have IIp := Lib.hid (IIa.out.later hbp); have IP := Lib.hid ip; have hCp : ((fun w' : World => w'.cell? ⟨w.heap.size + 1 + 1 + 1, 0, none⟩ = some (.bool s) ∧ w'.cell? ⟨w.heap.size + 1 + 1 + 1, 1, none⟩ = some (.slice A m c) ∧ w'.cell? ⟨g7, 0, none⟩ = some (.bool sx) ∧ w'.cell? ⟨g7, 1, none⟩ = some (.slice Ax nx cx) ∧ w'.cell? ⟨w.heap.size + 1, 0, none⟩ = some (.slice (some ⟨b2, o2, none⟩) n c2) ∧ w'.cell? ⟨b2, o2 + k * 2, none⟩ = some (.bool sy) ∧ w'.cell? ⟨b2, o2 + k * 2 + 1, none⟩ = some (.slice Ay ny cy))) wp := ⟨HSp.out.duo.1, HSp.out.duo.2, H7p.out.duo.1, H7p.out.duo.2, HYp.out.trio.1, HE.out _ HBp.out⟩; clear hbp0 ip))
    refine behind_ok ⟨hCp, ?_⟩
    refine goes_call (i := 8) rfl (by kernel_rfl) ?_
    go_wp2_with (go_at_call 14; go_loud (with_reducible refine (sumH IIp.out IP.out (Below.refl _ _) (Below.refl _ _) (by omega) (by omega)).mono ?_; rintro e wq ⟨hbq, sq, Aq, nq, cq, rfl, iq⟩; have HBq := Lib.hid (below_to HBp.out hbq HBp.out.size); have HXq := Lib.hid (HXp.out.below hbq HXp.out.lt); have HYq := Lib.hid (HYp.out.below hbq HYp.out.lt); have HRq := Lib.hid (HRp.out.below hbq HRp.out.lt); have HSq := Lib.hid (HSp.out.below hbq HSp.out.lt); have H7q := Lib.hid (H7p.out.below hbq H7p.out.lt); rw [← HSTEP.out] at iq; have IQ := Lib.hid iq; have hCq : ((fun w' : World => w'.cell? ⟨w.heap.size + 1 + 1 + 1, 0, none⟩ = some (.bool s) ∧ w'.cell? ⟨w.heap.size + 1 + 1 + 1, 1, none⟩ = some (.slice A m c) ∧ w'.cell? ⟨g7, 0, none⟩ = some (.bool sx) ∧ w'.cell? ⟨g7, 1, none⟩ = some (.slice Ax nx cx) ∧ w'.cell? ⟨w.heap.size + 1, 0, none⟩ = some (.slice (some ⟨b2, o2, none⟩) n c2) ∧ w'.cell? ⟨b2, o2 + k * 2, none⟩ = some (.bool sy) ∧ w'.cell? ⟨b2, o2 + k * 2 + 1, none⟩ = some (.slice Ay ny cy))) wq := ⟨HSq.out.duo.1, HSq.out.duo.2, H7q.out.duo.1, H7q.out.duo.2, HYq.out.trio.1, HE.out _ HBq.out⟩; clear iq hCp))
    refine behind_ok ⟨hCq, ?_⟩
    clear hCq hbp hbq hBa
    refine goes_last (i := 9) rfl (by kernel_rfl) (by kernel_rfl) ?_
    obtain ⟨q0, q1⟩ := HSq.out.duo
    have f0 := HSq.out.frozen 0
    have f1 := HSq.out.frozen 1
    go_wp2_with fail
    obtain ⟨V, hV⟩ : ∃ V, V = ((wq.setCell ⟨w.heap.size + 1 + 1 + 1, 0, none⟩ (.bool sq)).setCell ⟨w.heap.size + 1 + 1 + 1, 1, none⟩ (.slice Aq nq cq)) := ⟨_, rfl⟩
    have HBV : Hid (Below w.heap.size w V) := Lib.hid (by rw [hV]; exact (HBq.out.setCell (show w.heap.size ≤ w.heap.size + 1 + 1 + 1 by omega) _).setCell (show w.heap.size ≤ w.heap.size + 1 + 1 + 1 by omega) _)
    have HXV : Hid (Bk V w.heap.size 151 #[.slice (some ⟨b1, o1, none⟩) n c1, .bool s1, .slice B1 m1 e1]) := Lib.hid (by rw [hV]; exact (HXq.out.other (p := ⟨w.heap.size + 1 + 1 + 1, 0, none⟩) (by simp; omega) _).other (p := ⟨w.heap.size + 1 + 1 + 1, 1, none⟩) (by simp; omega) _)
    have HYV : Hid (Bk V (w.heap.size + 1) 151 #[.slice (some ⟨b2, o2, none⟩) n c2, .bool s2, .slice B2 m2 e2]) := Lib.hid (by rw [hV]; exact (HYq.out.other (p := ⟨w.heap.size + 1 + 1 + 1, 0, none⟩) (by simp) _).other (p := ⟨w.heap.size + 1 + 1 + 1, 1, none⟩) (by simp) _)
    have HRV : Hid (Bk V (w.heap.size + 1 + 1) 41 #[.bool false, .slice none 0 0, .bool false, .slice none 0 0]) := Lib.hid (by rw [hV]; exact (HRq.out.other (p := ⟨w.heap.size + 1 + 1 + 1, 0, none⟩) (by simp) _).other (p := ⟨w.heap.size + 1 + 1 + 1, 1, none⟩) (by simp) _)
    have HSV : Hid (Bk V (w.heap.size + 1 + 1 + 1) 24 #[.bool sq, .slice Aq nq cq]) := Lib.hid (by rw [hV]; exact HSq.out.duoset _ _)
    have HIV : Hid (IntH V sq Aq nq cq (dotI (N.take (k + 1)) (M.take (k + 1))) ((k + 1) * (K1 + K2 + 1)) true) := Lib.hid (by
     rw [hV]
     have h5 := IQ.out.past HSq.out (.bool sq) (.slice Aq nq cq)
     have e5 : (k + 1) * (K1 + K2 + 1) = k * (K1 + K2 + 1) + (K1 + K2) + 1 := by rw [Nat.add_mul]; omega
     rw [e5]
     exact h5)
    rw [← hV]
    refine behind_ok ?_
    refine goes_done (by kernel_rfl) ?_
    clear hV q0 q1 f0 f1
    go_wp2
    go_roundw
    case rel => exact ⟨k + 1, sq, Aq, nq, cq, by omega, by go_num, HXV.out, HYV.out, HRV.out, HSV.out, HIV.out, HBV.out⟩
    case measure => simp [intOf]; omega
  · obtain rfl : k = n := by omega
    have hend : dotI (N.take k) (M.take k) = dotI N M := by
     have e1 := HL1.out
     have e2 := HL2.out
     rw [List.take_of_length_le (by omega), List.take_of_length_le (by omega)]
    rw [hend] at HI
    clear hend
    go_upto_region 7 with fail
    have hC : Hid ((fun w' : World => w'.cell? ⟨w.heap.size + 1 + 1 + 1, 0, none⟩ = some (.bool s) ∧ w'.cell? ⟨w.heap.size + 1 + 1 + 1, 1, none⟩ = some (.slice A m c) ∧ w'.cell? ⟨w.heap.size, 1, none⟩ = some (.bool s1) ∧ w'.cell? ⟨w.heap.size, 2, none⟩ = some (.slice B1 m1 e1) ∧ w'.cell? ⟨w.heap.size + 1, 1, none⟩ = some (.bool s2) ∧ w'.cell? ⟨w.heap.size + 1, 2, none⟩ = some (.slice B2 m2 e2) ∧ True) wo.drew) := Lib.hid ⟨HS.out.duo.1, HS.out.duo.2, HX.out.trio.2.1, HX.out.trio.2.2, HY.out.trio.2.1, HY.out.trio.2.2, trivial⟩
    have HC := hC
    refine region_goes (n := 8) (fun w' : World => w'.cell? ⟨w.heap.size + 1 + 1 + 1, 0, none⟩ = some (.bool s) ∧ w'.cell? ⟨w.heap.size + 1 + 1 + 1, 1, none⟩ = some (.slice A m c) ∧ w'.cell? ⟨w.heap.size, 1, none⟩ = some (.bool s1) ∧ w'.cell? ⟨w.heap.size, 2, none⟩ = some (.slice B1 m1 e1) ∧ w'.cell? ⟨w.heap.size + 1, 1, none⟩ = some (.bool s2) ∧ w'.cell? ⟨w.heap.size + 1, 2, none⟩ = some (.slice B2 m2 e2) ∧ True) [7] (by kernel_rfl) rfl ?_
    refine goes_takeE (i := 0) (E := [6, 7]) (v := .agg #[.bool s, .slice A m c]) rfl (by kernel_rfl) rfl (fun _ _ _ h => h) (by intro w' hw'; obtain ⟨z0, z1, z2, z3, z4, z5, z6⟩ := hw'; go_simp) HC.out ?_
    refine goes_takeE (i := 1) (E := [2, 5, 6, 7]) (v := .pointer (some ⟨w.heap.size, 1, none⟩)) rfl (by kernel_rfl) rfl (fun _ _ _ h => h) (by intro w' hw'; obtain ⟨z0, z1, z2, z3, z4, z5, z6⟩ := hw'; go_simp) HC.out ?_
    refine goes_takeE (i := 2) (E := [5, 6, 7]) (v := .agg #[.bool s1, .slice B1 m1 e1]) rfl (by kernel_rfl) rfl (fun _ _ _ h => h) (by intro w' hw'; obtain ⟨z0, z1, z2, z3, z4, z5, z6⟩ := hw'; go_simp) HC.out ?_
    refine goes_takeE (i := 3) (E := [4, 5, 6, 7]) (v := .pointer (some ⟨w.heap.size + 1, 1, none⟩)) rfl (by kernel_rfl) rfl (fun _ _ _ h => h) (by intro w' hw'; obtain ⟨z0, z1, z2, z3, z4, z5, z6⟩ := hw'; go_simp) HC.out ?_
    refine goes_takeE (i := 4) (E := [5, 6, 7]) (v := .agg #[.bool s2, .slice B2 m2 e2]) rfl (by kernel_rfl) rfl (fun _ _ _ h => h) (by intro w' hw'; obtain ⟨z0, z1, z2, z3, z4, z5, z6⟩ := hw'; go_simp) HC.out ?_
    refine goes_call (i := 5) rfl (by kernel_rfl) ?_
    go_wp2_with (go_at_call 18; go_loud (with_reducible refine (prodH I1.out I2.out (Below.drew HB.out) (Below.drew HB.out) (by omega) (by omega)).mono ?_; rintro e wp ⟨hbp0, sp, Ap, np, cp, rfl, ip⟩; have hbp := below_drew hbp0; have HBp := Lib.hid (below_to HB.out hbp HB.out.size); have HXp := Lib.hid (HX.out.below hbp HX.out.lt); have HYp := Lib.hid (HY.out.below hbp HY.out.lt); have HRp := Lib.hid (HR.out.below hbp HR.out.lt); have HSp := Lib.hid (HS.out.below hbp HS.out.lt); have IIp := Lib.hid (HI.out.later hbp); have IP := Lib.hid ip; have hCp : ((fun w' : World => w'.cell? ⟨w.heap.size + 1 + 1 + 1, 0, none⟩ = some (.bool s) ∧ w'.cell? ⟨w.heap.size + 1 + 1 + 1, 1, none⟩ = some (.slice A m c) ∧ w'.cell? ⟨w.heap.size, 1, none⟩ = some (.bool s1) ∧ w'.cell? ⟨w.heap.size, 2, none⟩ = some (.slice B1 m1 e1) ∧ w'.cell? ⟨w.heap.size + 1, 1, none⟩ = some (.bool s2) ∧ w'.cell? ⟨w.heap.size + 1, 2, none⟩ = some (.slice B2 m2 e2) ∧ True)) wp := ⟨HSp.out.duo.1, HSp.out.duo.2, HXp.out.trio.2.1, HXp.out.trio.2.2, HYp.out.trio.2.1, HYp.out.trio.2.2, trivial⟩; clear hbp0 ip))
    refine behind_ok ⟨hCp, ?_⟩
    refine goes_takeE (i := 6) (E := [7]) (v := .agg #[.bool s, .slice A m c, .bool sp, .slice Ap np cp]) rfl (by kernel_rfl) rfl (fun _ _ _ h => h) (by intro w' hw'; obtain ⟨z0, z1, z2, z3, z4, z5, z6⟩ := hw'; go_simp) hCp ?_
    refine goes_last (i := 7) rfl (by kernel_rfl) (by kernel_rfl) ?_
    obtain ⟨⟨q0, q1, q2, q3⟩, f0, f1, f2, f3⟩ := And.intro HRp.out.four4 (And.intro (HRp.out.frozen 0) (And.intro (HRp.out.frozen 1) (And.intro (HRp.out.frozen 2) (HRp.out.frozen 3))))
    clear hCp hbp
    go_wp2_with fail
    obtain ⟨V, hV, hBV, hRV, hQV, -⟩ := stored_over HBp.out (show w.heap.size ≤ w.heap.size + 1 + 1 by omega) HRp.out (RatH.of_two (IIp.out.wide (show k * (K1 + K2 + 1) ≤ k * (K1 + K2 + 1) + (D1 + D2) by omega)) (IP.out.wide (show D1 + D2 ≤ k * (K1 + K2 + 1) + (D1 + D2) by omega)) (Int.mul_pos p1 p2))
    rw [← hV]
    refine behind_ok ?_
    refine goes_done (by kernel_rfl) ?_
    clear hV q0 q1 q2 q3 f0 f1 f2 f3
    obtain ⟨u0, u1, u2, u3⟩ := hRV.four4
    have HQ := Lib.hid (And.intro hBV hQV)
    clear hBV hRV hQV
    go_wp2
    refine bodyPost_ret (v := .agg #[.bool s, .slice A m c, .bool sp, .slice Ap np cp]) (by simp [results, Tryz.results138, go_sem, u0, u1, u2, u3]) rfl ?_
    exact ⟨HQ.out.1, s, A, m, c, sp, Ap, np, cp, rfl, HQ.out.2⟩
end Go.Proofs.YthlfhfkfjefidaaGreat
/- Vectors, the program: the common multiple of two positive integers. -/
namespace Go.Proofs.YthlfhfkfjefidaaGreat
open Go Go.RowKit
theorem lcm_eq {p q : Nat} : p * (q / Nat.gcd p q) = Nat.lcm p q := by
 unfold Nat.lcm
 rw [Nat.mul_div_assoc _ (Nat.gcd_dvd_right p q)]
theorem pos_parts {w0 : World} {s : Bool} {A : Option Addr} {n c K p : Nat} (h : IntH w0 s A n c (p : Int) K true) (hp : 0 < p) : ∃ l, (∀ w', Below w0.heap.size w0 w' → Lim w' w'.heap.size A n c l) ∧ Norm l ∧ val l = p ∧ s = false := by
 obtain ⟨l, g, e, hn⟩ := h.lim
 cases s
 · exact ⟨l, g, (hn rfl).1, by simp [sg] at e; omega, rfl⟩
 · simp [sg] at e; omega
theorem IntH.widen {w0 : World} {s : Bool} {A : Option Addr} {n c : Nat} {z : Int} {K K' : Nat} {nf : Bool} (h : IntH w0 s A n c z K nf) (hk : K ≤ K') : IntH w0 s A n c z K' nf := ⟨h.lim, Nat.le_trans h.len hk⟩
set_option maxRecDepth 100000 in
set_option maxHeartbeats 1600000 in
theorem commonMul_any {w1 w2 w : World} {s1 s2 : Bool} {A1 A2 : Option Addr} {n1 c1 n2 c2 K1 K2 p q : Nat} (h1 : IntH w1 s1 A1 n1 c1 (p : Int) K1 true) (h2 : IntH w2 s2 A2 n2 c2 (q : Int) K2 true) (b1 : Below w1.heap.size w1 w) (b2 : Below w2.heap.size w2 w) (hp : 0 < p) (hq : 0 < q) (k1 : K1 ≤ 500) (k2 : K2 ≤ 500) :
 Calls Tryz.prog 151 #[.agg #[.bool s1, .slice A1 n1 c1], .agg #[.bool s2, .slice A2 n2 c2]] w (MakesInt ((Nat.lcm p q : Nat) : Int) (K1 + K2) w) := by
 obtain ⟨l1, g1, N1, v1, rfl⟩ := pos_parts h1 hp
 obtain ⟨l2, g2, N2, v2, rfl⟩ := pos_parts h2 hq
 have hn1 := h1.len
 have hn2 := h2.len
 have G1 : Hid (∀ w', Below w.heap.size w w' → Lim w' w'.heap.size A1 n1 c1 l1) := Lib.hid fun w' hb => g1 w' (below_to b1 hb b1.size)
 have G2 : Hid (∀ w', Below w.heap.size w w' → Lim w' w'.heap.size A2 n2 c2 l2) := Lib.hid fun w' hb => g2 w' (below_to b2 hb b2.size)
 have HI1 := Lib.hid (h1.later b1)
 have NN1 := Lib.hid N1
 have NN2 := Lib.hid N2
 have V1 := Lib.hid v1
 have V2 := Lib.hid v2
 clear h1 h2 g1 g2 N1 N2 v1 v2
 go_enter Tryz.func151, Tryz.ntmps151
 go_upto_region 1 with fail
 obtain ⟨wa, hW⟩ : ∃ W, W = (((w.alloc (.cells #[.bool false, .slice A1 n1 c1] 24)).alloc (.cells #[.bool false, .slice A2 n2 c2] 24)).alloc (.cells #[.bool false, .slice none 0 0] 24)) := ⟨_, rfl⟩
 have HBa : Hid (Below w.heap.size w wa) := Lib.hid (by rw [hW]; exact bl)
 have HXa : Hid (Bk wa w.heap.size 24 #[.bool false, .slice A1 n1 c1]) := Lib.hid (by rw [hW]; exact bk)
 have HYa : Hid (Bk wa (w.heap.size + 1) 24 #[.bool false, .slice A2 n2 c2]) := Lib.hid (by rw [hW]; exact bk)
 have H4a : Hid (Bk wa (w.heap.size + 2) 24 #[.bool false, .slice none 0 0]) := Lib.hid (by rw [hW]; exact bk)
 have HTa := HBa
 rw [← hW]
 clear hW
 have HIa := Lib.hid (HI1.out.later HBa.out)
 obtain ⟨x0, x1⟩ := HXa.out.duo
 obtain ⟨y0, y1⟩ := HYa.out.duo
 have hone : decide (l2 = [1]) = decide (q = 1) := by
  refine decide_eq_decide.2 ⟨fun h => ?_, fun h => ?_⟩
  · rw [← V2.out, h]; rfl
  · have e1 : val l2 = 1 := by rw [V2.out, h]
    have hle := norm_len_le (k := 1) NN2.out (by rw [e1]; decide)
    match l2, e1, hle with
    | [], e1, _ => cases e1
    | [y], e1, _ =>
      have : y = 1 := by simpa [val] using e1
      rw [this]
 by_cases hq1 : q = 1
 · have HON : Hid (Calls Tryz.prog 96 #[.slice A2 n2 c2] wa fun e w' => wa = w' ∧ e = .returned (.bool true)) := Lib.hid (by
    have := isOne_any A2 n2 c2 l2 wa.heap.size wa (G2.out _ HBa.out)
    rwa [hone, decide_eq_true hq1] at this)
   have hlcm : Nat.lcm p q = p := by rw [hq1, Nat.lcm_one_right]
   have HLC := Lib.hid hlcm
   clear hlcm hone hq1
   obtain ⟨r0, r1⟩ := HXa.out.duo
   obtain ⟨q0, q1⟩ := H4a.out.duo
   have f0 := H4a.out.frozen 0
   have f1 := H4a.out.frozen 1
   go_wp2_with (go_at_call 96; go_loud (refine HON.out.mono ?_; rintro e wj ⟨rfl, rfl⟩))
   obtain ⟨u0, u1⟩ := (H4a.out.duoset (.bool false) (.slice A1 n1 c1)).duo
   refine bodyPost_ret (v := .agg #[.bool false, .slice A1 n1 c1]) (by simp [results, Tryz.results151, go_sem, u0, u1]) rfl ?_
   rw [HLC.out]
   exact ⟨(HBa.out.setCell (show w.heap.size ≤ w.heap.size + 2 by omega) _).setCell (show w.heap.size ≤ w.heap.size + 2 by omega) _, false, A1, n1, c1, rfl, (HIa.out.past H4a.out _ _).widen (by omega)⟩
 have HON : Hid (Calls Tryz.prog 96 #[.slice A2 n2 c2] wa fun e w' => wa = w' ∧ e = .returned (.bool false)) := Lib.hid (by
  have := isOne_any A2 n2 c2 l2 wa.heap.size wa (G2.out _ HBa.out)
  rwa [hone, decide_eq_false hq1] at this)
 have HCM : Hid (Calls Tryz.prog 22 #[.agg #[.bool false, .slice A1 n1 c1], .agg #[.bool false, .slice A2 n2 c2]] wa fun e w' => e = .returned (.int .i64 (cmpI (p : Int) (q : Int))) ∧ Below wa.heap.size wa w') := Lib.hid (by
  have := cmpInt_any false false A1 A2 n1 c1 n2 c2 l1 l2 wa (G1.out _ HBa.out) (G2.out _ HBa.out)
  rw [V1.out, V2.out] at this
  simpa [sg] using this)
 clear hone hq1
 obtain ⟨C, hC⟩ : ∃ C, cmpI (p : Int) (q : Int) = C := ⟨_, rfl⟩
 rw [hC] at HCM
 by_cases hpq : p = q
 · have hc0 : (C == 0) = true := by rw [← hC, cmpI_eq (by omega)]; rfl
   have hlcm : Nat.lcm p q = p := by rw [hpq, Nat.lcm_self]
   have HLC := Lib.hid hlcm
   clear hlcm hC hpq
   go_upto_region 2 with (first
    | (go_at_call 96; refine HON.out.mono ?_; rintro e wj ⟨rfl, rfl⟩)
    | (go_at_call 22; go_loud (refine HCM.out.mono ?_; rintro e wc ⟨rfl, hbc⟩; have HBc := Lib.hid (below_to HBa.out hbc HBa.out.size); have HXc := Lib.hid (HXa.out.below hbc HXa.out.lt); have HYc := Lib.hid (HYa.out.below hbc HYa.out.lt); have H4c := Lib.hid (H4a.out.below hbc H4a.out.lt); have HTc := Lib.hid (below_to HTa.out hbc HTa.out.size); have HIc := Lib.hid (HIa.out.later hbc); clear hbc)))
   clear x0 x1 y0 y1
   obtain ⟨r0, r1⟩ := HXc.out.duo
   obtain ⟨q0, q1⟩ := H4c.out.duo
   have f0 := H4c.out.frozen 0
   have f1 := H4c.out.frozen 1
   go_wp2
   obtain ⟨u0, u1⟩ := (H4c.out.duoset (.bool false) (.slice A1 n1 c1)).duo
   refine bodyPost_ret (v := .agg #[.bool false, .slice A1 n1 c1]) (by simp [results, Tryz.results151, go_sem, u0, u1]) rfl ?_
   rw [HLC.out]
   exact ⟨(HBc.out.setCell (show w.heap.size ≤ w.heap.size + 2 by omega) _).setCell (show w.heap.size ≤ w.heap.size + 2 by omega) _, false, A1, n1, c1, rfl, (HIc.out.past H4c.out _ _).widen (by omega)⟩
 have hc0 : (C == 0) = false := by
  rw [← hC]
  rcases Nat.lt_or_gt_of_ne hpq with h | h
  · rw [cmpI_lt (by omega)]; rfl
  · rw [cmpI_gt (by omega)]; rfl
 clear hC hpq
 go_upto_region 3 with (first
  | (go_at_call 96; refine HON.out.mono ?_; rintro e wj ⟨rfl, rfl⟩)
  | (go_at_call 22; go_loud (refine HCM.out.mono ?_; rintro e wc ⟨rfl, hbc⟩; have HBc := Lib.hid (below_to HBa.out hbc HBa.out.size); have HXc := Lib.hid (HXa.out.below hbc HXa.out.lt); have HYc := Lib.hid (HYa.out.below hbc HYa.out.lt); have H4c := Lib.hid (H4a.out.below hbc H4a.out.lt); have HTc := Lib.hid (below_to HTa.out hbc HTa.out.size); have HIc := Lib.hid (HIa.out.later hbc); clear hbc)))
 clear x0 x1 y0 y1 HON HCM HBa HXa HYa H4a HIa
 have hq1 : 0 < val l2 := by rw [V2.out]; exact hq
 have hg0 : 0 < Nat.gcd (val l1) (val l2) := Nat.gcd_pos_of_pos_right _ hq1
 have HC4 : Hid ((fun w' : World => (w'.cell? ⟨w.heap.size, 0, none⟩ = some (.bool false) ∧ w'.cell? ⟨w.heap.size, 1, none⟩ = some (.slice A1 n1 c1)) ∧ w'.cell? ⟨w.heap.size + 1, 0, none⟩ = some (.bool false) ∧ w'.cell? ⟨w.heap.size + 1, 1, none⟩ = some (.slice A2 n2 c2)) wc.drew) := Lib.hid ⟨HXc.out.duo, HYc.out.duo⟩
 refine region_goes (n := 12) (fun w' => (w'.cell? ⟨w.heap.size, 0, none⟩ = some (.bool false) ∧ w'.cell? ⟨w.heap.size, 1, none⟩ = some (.slice A1 n1 c1)) ∧ w'.cell? ⟨w.heap.size + 1, 0, none⟩ = some (.bool false) ∧ w'.cell? ⟨w.heap.size + 1, 1, none⟩ = some (.slice A2 n2 c2)) [] (by kernel_rfl) rfl ?_
 refine goes_takeE (i := 0) (E := []) (v := .agg #[.bool false, .slice A1 n1 c1]) rfl (by kernel_rfl) rfl (fun _ _ _ h => h) (by intro w' hw'; obtain ⟨⟨z0, z1⟩, z2, z3⟩ := hw'; go_simp) HC4.out ?_
 refine goes_takeE (i := 1) (E := []) (v := .pointer (some ⟨w.heap.size + 1, 1, none⟩)) rfl (by kernel_rfl) rfl (fun _ _ _ h => h) (by intro w' hw'; obtain ⟨⟨z0, z1⟩, z2, z3⟩ := hw'; go_simp) HC4.out ?_
 refine goes_takeE (i := 2) (E := []) (v := .slice A2 n2 c2) rfl (by kernel_rfl) rfl (fun _ _ _ h => h) (by intro w' hw'; obtain ⟨⟨z0, z1⟩, z2, z3⟩ := hw'; go_simp) HC4.out ?_
 refine goes_takeE (i := 3) (E := []) (v := .pointer (some ⟨w.heap.size, 1, none⟩)) rfl (by kernel_rfl) rfl (fun _ _ _ h => h) (by intro w' hw'; obtain ⟨⟨z0, z1⟩, z2, z3⟩ := hw'; go_simp) HC4.out ?_
 refine goes_takeE (i := 4) (E := []) (v := .slice A1 n1 c1) rfl (by kernel_rfl) rfl (fun _ _ _ h => h) (by intro w' hw'; obtain ⟨⟨z0, z1⟩, z2, z3⟩ := hw'; go_simp) HC4.out ?_
 refine goes_takeE (i := 5) (E := []) (v := .pointer (some ⟨w.heap.size + 1, 1, none⟩)) rfl (by kernel_rfl) rfl (fun _ _ _ h => h) (by intro w' hw'; obtain ⟨⟨z0, z1⟩, z2, z3⟩ := hw'; go_simp) HC4.out ?_
 refine goes_takeE (i := 6) (E := []) (v := .slice A2 n2 c2) rfl (by kernel_rfl) rfl (fun _ _ _ h => h) (by intro w' hw'; obtain ⟨⟨z0, z1⟩, z2, z3⟩ := hw'; go_simp) HC4.out ?_
 refine goes_call (i := 7) rfl (by kernel_rfl) ?_
 go_wp2_with (go_at_call 107; go_loud ((with_reducible refine (commonLimbs_any n1 c1 n2 c2 A1 A2 l1 l2 _ (G1.out _ HTc.out.drew) NN1.out (G2.out _ HTc.out.drew) NN2.out (by omega) (by omega)).mono ?_); rintro e wd ⟨hbd0, A3, n3, c3, l3, rfl, hl3, no3, hv3⟩; have hbd := below_drew hbd0; have HBd := Lib.hid (below_to HBc.out hbd HBc.out.size); have HXd := Lib.hid (HXc.out.below hbd HXc.out.lt); have HYd := Lib.hid (HYc.out.below hbd HYc.out.lt); have H4d := Lib.hid (H4c.out.below hbd H4c.out.lt); have HTd := Lib.hid (below_to HTc.out hbd HTc.out.size); have HId := Lib.hid (HIc.out.later hbd); have HL3 := Lib.hid hl3; have HN3 := Lib.hid no3; have HV3 := Lib.hid hv3; clear hbd hbd0 hl3 no3 hv3))
 refine behind_ok ⟨⟨HXd.out.duo, HYd.out.duo⟩, ?_⟩
 refine goes_call (i := 8) rfl (by kernel_rfl) ?_
 go_wp2_with (go_at_call 108; go_loud ((with_reducible refine (reduced_any n2 c2 n3 c3 A2 A3 l2 l3 _ (G2.out _ HTd.out) NN2.out HL3.out HN3.out (by rw [HV3.out]; exact hg0) (by omega)).mono ?_); rintro e we ⟨hbe, A4, n4, c4, l4, rfl, hl4, no4, hv4⟩; have HBe := Lib.hid (below_to HBd.out hbe HBd.out.size); have HXe := Lib.hid (HXd.out.below hbe HXd.out.lt); have HYe := Lib.hid (HYd.out.below hbe HYd.out.lt); have H4e := Lib.hid (H4d.out.below hbe H4d.out.lt); have HTe := Lib.hid (below_to HTd.out hbe HTd.out.size); have HIe := Lib.hid (HId.out.later hbe); have HL4 := Lib.hid hl4; have HN4 := Lib.hid no4; have HV4 := Lib.hid hv4; clear hbe hl4 no4 hv4))
 refine behind_ok ⟨⟨HXe.out.duo, HYe.out.duo⟩, ?_⟩
 refine goes_call (i := 9) rfl (by kernel_rfl) ?_
 go_wp2_with (go_at_call 57; go_loud ((with_reducible refine (signed_any false A4 n4 c4 _).mono ?_); rintro e wf ⟨rfl, hbf⟩; have HBf := Lib.hid (below_to HBe.out hbf HBe.out.size); have HXf := Lib.hid (HXe.out.below hbf HXe.out.lt); have HYf := Lib.hid (HYe.out.below hbf HYe.out.lt); have H4f := Lib.hid (H4e.out.below hbf H4e.out.lt); have HTf := Lib.hid (below_to HTe.out hbf HTe.out.size); have HIf := Lib.hid (HIe.out.later hbf); have HL4f := Lib.hid (fun w' (hb : Below wf.heap.size wf w') => HL4.out.below (below_to hbf hb hbf.size) (Nat.le_refl _) (Nat.le_trans hbf.size hb.size)); clear hbf))
 have hv4 : val l4 = q / Nat.gcd p q := by rw [HV4.out, HV3.out, V1.out, V2.out]
 have hn4 : n4 ≤ K2 := by
  rw [← HL4.out.len]
  refine norm_len_le HN4.out ?_
  rw [hv4]
  refine Nat.lt_of_le_of_lt (Nat.div_le_self _ _) ?_
  rw [← V2.out]
  refine Nat.lt_of_lt_of_le (val_lt (G2.out w (Below.refl _ _)).bd) (W_mono ?_)
  rw [(G2.out w (Below.refl _ _)).len]
  exact hn2
 have HI4 : Hid (IntH wf false A4 n4 c4 ((q / Nat.gcd p q : Nat) : Int) K2 true) := Lib.hid ⟨⟨l4, HL4f.out, by rw [hv4]; simp [sg], fun _ => ⟨HN4.out, fun h => by cases h⟩⟩, hn4⟩
 have hlcm : (p : Int) * ((q / Nat.gcd p q : Nat) : Int) = ((Nat.lcm p q : Nat) : Int) := by rw [← lcm_eq]; push_cast; rfl
 have HLC := Lib.hid hlcm
 clear hv4 hn4 hlcm
 refine behind_ok ⟨⟨HXf.out.duo, HYf.out.duo⟩, ?_⟩
 refine goes_call (i := 10) rfl (by kernel_rfl) ?_
 go_wp2_with (go_at_call 18; go_loud (with_reducible refine (prodH HIf.out HI4.out (Below.refl _ _) (Below.refl _ _) (by omega) (by omega)).mono ?_; rintro e wg ⟨hbg, s5, A5, n5, c5, rfl, hi5⟩; have HBg := Lib.hid (below_to HBf.out hbg HBf.out.size); have HXg := Lib.hid (HXf.out.below hbg HXf.out.lt); have HYg := Lib.hid (HYf.out.below hbg HYf.out.lt); have H4g := Lib.hid (H4f.out.below hbg H4f.out.lt); have HTg := Lib.hid (below_to HTf.out hbg HTf.out.size); rw [HLC.out] at hi5; have HI5 := Lib.hid hi5; clear hbg hi5))
 refine behind_ok ⟨⟨HXg.out.duo, HYg.out.duo⟩, ?_⟩
 obtain ⟨q0, q1'⟩ := H4g.out.duo
 have f0 := H4g.out.frozen 0
 have f1 := H4g.out.frozen 1
 refine goes_call (i := 11) rfl (by kernel_rfl) ?_
 go_wp2_with fail
 have hx5 : Bk ((wg.setCell ⟨w.heap.size + 2, 0, none⟩ (.bool s5)).setCell ⟨w.heap.size + 2, 1, none⟩ (.slice A5 n5 c5)) w.heap.size 24 #[.bool false, .slice A1 n1 c1] := HXg.out.two (by omega) _ _
 have hy5 : Bk ((wg.setCell ⟨w.heap.size + 2, 0, none⟩ (.bool s5)).setCell ⟨w.heap.size + 2, 1, none⟩ (.slice A5 n5 c5)) (w.heap.size + 1) 24 #[.bool false, .slice A2 n2 c2] := HYg.out.two (by omega) _ _
 refine behind_ok ⟨⟨hx5.duo, hy5.duo⟩, ?_⟩
 refine goes_done (by kernel_rfl) ?_
 go_wp2
 obtain ⟨u0, u1⟩ := (H4g.out.duoset (.bool s5) (.slice A5 n5 c5)).duo
 refine bodyPost_ret (v := .agg #[.bool s5, .slice A5 n5 c5]) (by simp [results, Tryz.results151, go_sem, u0, u1]) rfl ?_
 exact ⟨(HBg.out.setCell (show w.heap.size ≤ w.heap.size + 2 by omega) _).setCell (show w.heap.size ≤ w.heap.size + 2 by omega) _, s5, A5, n5, c5, rfl, HI5.out.past H4g.out _ _⟩
end Go.Proofs.YthlfhfkfjefidaaGreat
/- Vectors, the program: a list as a vector. -/
namespace Go.Proofs.YthlfhfkfjefidaaGreat
open Go Go.RowKit
theorem RowI.at_ {w : World} {g n : Nat} {K : Nat → Nat} (hg : w.heap.size = g) : RowI (w.alloc (.cells (madeCells #[.bool false, .slice none 0 0] (n * 2)) 24)) g n (List.replicate n 0) K := by subst hg; exact rowI_new _ _ _
theorem Bk.trio_set {w : World} {g t : Nat} {a b c : Value} (h : Bk w g t #[a, b, c]) (u0 u1 u2 : Value) : Bk (((w.setCell ⟨g, 0, none⟩ u0).setCell ⟨g, 1, none⟩ u1).setCell ⟨g, 2, none⟩ u2) g t #[u0, u1, u2] := by
 have := ((h.set_ 0 u0).set_ 1 u1).set_ 2 u2
 simpa using this
theorem chg_trio (w : World) (g : Nat) (u0 u1 u2 : Value) : Chg g w (((w.setCell ⟨g, 0, none⟩ u0).setCell ⟨g, 1, none⟩ u1).setCell ⟨g, 2, none⟩ u2) := (((Chg.refl g w).set _ _).set _ _).set _ _
theorem nou_vec {A B : Option Addr} {n c m e : Nat} {s : Bool} : nou #[.slice A n c, .bool s, .slice B m e] := fun k z h => by
 match k with
 | 0 => simp at h
 | 1 => simp at h
 | 2 => simp at h
 | k + 3 => simp at h
def VStart (w : World) (n : Nat) (v : Value) (wx : World) : Prop := ∃ (g gv : Nat) (s : Bool) (B : Option Addr) (m e : Nat), v = .pointer (some ⟨gv, 0, none⟩) ∧ w.heap.size < g ∧ w.heap.size < gv ∧ g ≠ gv ∧ Below w.heap.size w wx ∧
 Bk wx w.heap.size 151 #[.slice none 0 0, .bool false, .slice none 0 0] ∧ RowI wx g n (List.replicate n 0) (fun _ => 4) ∧ Bk wx gv 151 #[.slice (some ⟨g, 0, none⟩) n n, .bool s, .slice B m e] ∧ IntH wx s B m e 1 1 true
theorem vec_store {w X : World} {g gv n : Nat} {s : Bool} {B : Option Addr} {m e : Nat} (hB : Below w.heap.size w X) (hZ : Bk X w.heap.size 151 #[.slice none 0 0, .bool false, .slice none 0 0]) (hR : RowI X g n (List.replicate n 0) (fun _ => 4)) (hV : Bk X gv 151 #[.slice none 0 0, .bool false, .slice none 0 0]) (hI : IntH X s B m e 1 1 true) (h1 : w.heap.size < g) (h2 : w.heap.size < gv) (hne : g ≠ gv) :
 VStart w n (.pointer (some ⟨gv, 0, none⟩)) (((X.setCell ⟨gv, 0, none⟩ (.slice (some ⟨g, 0, none⟩) n n)).setCell ⟨gv, 1, none⟩ (.bool s)).setCell ⟨gv, 2, none⟩ (.slice B m e)) :=
 ⟨g, gv, s, B, m, e, rfl, h1, h2, hne, ((hB.setCell (show w.heap.size ≤ gv by omega) _).setCell (show w.heap.size ≤ gv by omega) _).setCell (show w.heap.size ≤ gv by omega) _, (chg_trio X gv _ _ _).bk _ _ _ (by omega) hZ, hR.chg hne hV nou_vec (chg_trio X gv _ _ _), hV.trio_set _ _ _, hI.chg hV nou_vec (chg_trio X gv _ _ _)⟩
section
variable {P : Program} {ops : Array Oper} {Q : Exit → Act → World → Prop}
theorem goes_one {i n : Nat} {oi : Oper} {L : Array Bool} {a : Act} {w : World} (hi : ops[i]? = some oi) (hr : Region.ready .any ops L = [i])
 (h : wpList P ops (Behind Q fun a' w' => Sim.Goes P ops Q (SD (fun _ => True) []) n (L.setIfInBounds i true) a' w') [oi] a w) : Sim.Goes P ops Q (SD (fun _ => True) []) (n + 1) L a w := by
 refine Sim.Goes.all hr (by simp) fun x hx => ?_
 obtain rfl : x = i := by simpa using hx
 exact wpOp_mono (fun a' w' h => ⟨.inr trivial, h⟩) (wpOp_of_list hi h)
theorem goes_or2 {i j n : Nat} {oi oj : Oper} {L : Array Bool} {a : Act} {w : World} (hi : ops[i]? = some oi) (hj : ops[j]? = some oj) (hr : Region.ready .any ops L = [i, j])
 (h1 : wpList P ops (Behind Q fun a' w' => Sim.Goes P ops Q (SD (fun _ => True) []) n (L.setIfInBounds i true) a' w') [oi] a w) (h2 : wpList P ops (Behind Q fun a' w' => Sim.Goes P ops Q (SD (fun _ => True) []) n (L.setIfInBounds j true) a' w') [oj] a w) : Sim.Goes P ops Q (SD (fun _ => True) []) (n + 1) L a w := by
 refine Sim.Goes.all hr (by simp) fun x hx => ?_
 simp only [List.mem_cons, List.not_mem_nil, or_false] at hx
 rcases hx with rfl | rfl
 · exact wpOp_mono (fun a' w' h => ⟨.inr trivial, h⟩) (wpOp_of_list hi h1)
 · exact wpOp_mono (fun a' w' h => ⟨.inr trivial, h⟩) (wpOp_of_list hj h2)
theorem goes_or3 {i j k n : Nat} {oi oj ok : Oper} {L : Array Bool} {a : Act} {w : World} (hi : ops[i]? = some oi) (hj : ops[j]? = some oj) (hk : ops[k]? = some ok) (hr : Region.ready .any ops L = [i, j, k])
 (h1 : wpList P ops (Behind Q fun a' w' => Sim.Goes P ops Q (SD (fun _ => True) []) n (L.setIfInBounds i true) a' w') [oi] a w) (h2 : wpList P ops (Behind Q fun a' w' => Sim.Goes P ops Q (SD (fun _ => True) []) n (L.setIfInBounds j true) a' w') [oj] a w) (h3 : wpList P ops (Behind Q fun a' w' => Sim.Goes P ops Q (SD (fun _ => True) []) n (L.setIfInBounds k true) a' w') [ok] a w) : Sim.Goes P ops Q (SD (fun _ => True) []) (n + 1) L a w := by
 refine Sim.Goes.all hr (by simp) fun x hx => ?_
 simp only [List.mem_cons, List.not_mem_nil, or_false] at hx
 rcases hx with rfl | rfl | rfl
 · exact wpOp_mono (fun a' w' h => ⟨.inr trivial, h⟩) (wpOp_of_list hi h1)
 · exact wpOp_mono (fun a' w' h => ⟨.inr trivial, h⟩) (wpOp_of_list hj h2)
 · exact wpOp_mono (fun a' w' h => ⟨.inr trivial, h⟩) (wpOp_of_list hk h3)
end
theorem one_H (w : World) : Calls Tryz.prog 12 #[.int .i64 1] w (MakesInt 1 1 w) :=
 (of_any 1 w (by omega) (by omega)).mono fun _ _ h => makes_of h (by decide)
theorem RowI.put {D : Nat} {w0 w : World} {g n k : Nat} {K K' : Nat → Nat} {N : List Int} (h : RowI w g n N K) (hb : Below D w0 w) (hg : D ≤ g) (hk : k < n) {s : Bool} {A : Option Addr} {m c : Nat} {z : Int} (hi : IntH w s A m c z (K' k) false) (hm : ∀ j, j ≠ k → K j ≤ K' j) :
 ∃ V, V = ((w.setCell ⟨g, k * 2, none⟩ (.bool s)).setCell ⟨g, k * 2 + 1, none⟩ (.slice A m c)) ∧ Below D w0 V ∧ RowI V g n (N.set k z) K' ∧ (∀ g2 n2 N2 K2, g2 ≠ g → RowI w g2 n2 N2 K2 → RowI V g2 n2 N2 K2) ∧ (∀ k t cs, k ≠ g → Bk w k t cs → Bk V k t cs) ∧ (∀ s A m c z K nf, IntH w s A m c z K nf → IntH V s A m c z K nf) ∧
  V.cell? ⟨g, k * 2, none⟩ = some (.bool s) ∧ V.cell? ⟨g, k * 2 + 1, none⟩ = some (.slice A m c) := by
 obtain ⟨cur, h1, h2, h3, h4⟩ := h.ex
 have hc : Chg g w ((w.setCell ⟨g, k * 2, none⟩ (.bool s)).setCell ⟨g, k * 2 + 1, none⟩ (.slice A m c)) := ((Chg.refl g w).set _ _).set _ _
 have hk2 := (h1.set_ (k * 2) (.bool s)).set_ (k * 2 + 1) (.slice A m c)
 refine ⟨_, rfl, (hb.setCell (show D ≤ g from hg) _).setCell (show D ≤ g from hg) _, h.set hk hi hm, fun g2 n2 N2 K2 hne h5 => h5.chg hne h1 h3 hc, fun k t cs hne h5 => hc.bk k t cs hne h5, fun s A m c z K nf h5 => h5.chg h1 h3 hc, ?_, ?_⟩
 · rw [hk2.cell]
   simp [Array.getElem?_setIfInBounds]
   omega
 · rw [hk2.cell]
   simp [Array.getElem?_setIfInBounds]
   omega
theorem den_put {D : Nat} {w0 w : World} {gv : Nat} {A B : Option Addr} {n c m e : Nat} {s : Bool} (h : Bk w gv 151 #[.slice A n c, .bool s, .slice B m e]) (hb : Below D w0 w) (hg : D ≤ gv) (s' : Bool) (B' : Option Addr) (m' e' : Nat) :
 ∃ V, V = ((w.setCell ⟨gv, 1, none⟩ (.bool s')).setCell ⟨gv, 2, none⟩ (.slice B' m' e')) ∧ Below D w0 V ∧ Bk V gv 151 #[.slice A n c, .bool s', .slice B' m' e'] ∧ (∀ g2 n2 N2 K2, g2 ≠ gv → RowI w g2 n2 N2 K2 → RowI V g2 n2 N2 K2) ∧ (∀ k t cs, k ≠ gv → Bk w k t cs → Bk V k t cs) ∧ (∀ s A m c z K nf, IntH w s A m c z K nf → IntH V s A m c z K nf) := by
 have hc : Chg gv w ((w.setCell ⟨gv, 1, none⟩ (.bool s')).setCell ⟨gv, 2, none⟩ (.slice B' m' e')) := ((Chg.refl gv w).set _ _).set _ _
 refine ⟨_, rfl, (hb.setCell (show D ≤ gv from hg) _).setCell (show D ≤ gv from hg) _, ?_, fun g2 n2 N2 K2 hne h5 => h5.chg hne h nou_vec hc, fun k t cs hne h5 => hc.bk k t cs hne h5, fun s A m c z K nf h5 => h5.chg h nou_vec hc⟩
 have := (h.set_ 1 (.bool s')).set_ 2 (.slice B' m' e')
 simpa using this
theorem RowI.wide {w : World} {g n : Nat} {K K' : Nat → Nat} {N : List Int} (h : RowI w g n N K) (hk : ∀ j, K j ≤ K' j) : RowI w g n N K' := by
 obtain ⟨cur, h1, h2, h3, h4⟩ := h.ex
 exact ⟨h.len, cur, h1, h2, h3, fun k z hz => by
  obtain ⟨s, A, m, c, e1, e2, hi⟩ := h4 k z hz
  exact ⟨s, A, m, c, e1, e2, hi.widn (hk k)⟩⟩
theorem IntH.of_pos {w : World} {K : Nat} {v : Value} {z : Int} (h : NumAt w w.heap.size v z) (hz : z.natAbs < W K) (h0 : 0 < z) : ∃ s A n c, v = .agg #[.bool s, .slice A n c] ∧ IntH w s A n c z K true := by
 obtain ⟨s, A, n, c, l, e, hl, hn, hzz⟩ := h
 refine ⟨s, A, n, c, e, ⟨l, fun w' hb => hl.below hb (Nat.le_refl _) hb.size, hzz, fun _ => ⟨hn, fun hs => ?_⟩⟩, ?_⟩
 · rw [hs] at hzz
   simp [sg] at hzz
   omega
 · rw [hzz, sg_abs] at hz
   have := norm_len_le hn hz
   rwa [hl.len] at this
theorem termsP {w w1 : World} {s1 : Bool} {A1 : Option Addr} {n1 c1 : Nat} {s2 : Bool} {A2 : Option Addr} {n2 c2 : Nat} {nf : Bool} {x : Rat} {K : Nat} (h : RatH w1 s1 A1 n1 c1 s2 A2 n2 c2 x K nf) (b1 : Below w1.heap.size w1 w) (hK : K ≤ 3) :
 Calls Tryz.prog 73 #[.agg #[.bool s1, .slice A1 n1 c1, .bool s2, .slice A2 n2 c2]] w fun e w' => Below w.heap.size w w' ∧ ∃ (s : Bool) (A : Option Addr) (n c : Nat) (s' : Bool) (A' : Option Addr) (n' c' : Nat) (p : Int) (q : Nat), e = .returned (.tuple #[.agg #[.bool s, .slice A n c], .agg #[.bool s', .slice A' n' c']]) ∧
  IntH w' s A n c p 4 false ∧ IntH w' s' A' n' c' (q : Int) 4 true ∧ x * (((q : Nat) : Int) : Rat) = (p : Rat) ∧ 0 < q := by
 obtain ⟨l1, l2, h1, h2, h3, -⟩ := h.lim
 have L1 := h1 w b1
 have L2 := h2 w b1
 refine (terms_any s1 s2 A1 A2 n1 c1 n2 c2 l1 l2 w L1 L2).mono fun e w' hh => ?_
 obtain ⟨hb, u, v, p, q, rfl, hu, hv, ht⟩ := hh
 have e1 := sg_below (s := s1) L1.bd L1.len (show n1 ≤ 4 by have := h.len1; omega)
 have e2 := sg_below (s := s2) L2.bd L2.len (show n2 ≤ 4 by have := h.len2; omega)
 obtain ⟨k1, k2⟩ := ht.bounds e1 e2 (by omega)
 obtain ⟨f1, f2⟩ := ht.frac
 obtain ⟨s, A, n, c, rfl, i1⟩ := IntH.of_num hu k1
 obtain ⟨s', A', n', c', rfl, i2⟩ := IntH.of_pos hv k2 f2
 obtain ⟨q', rfl⟩ : ∃ q' : Nat, q = (q' : Int) := ⟨q.toNat, by omega⟩
 exact ⟨hb, s, A, n, c, s', A', n', c', p, q', rfl, i1, i2, of_divInt (by rw [f1, h3]) f2, by omega⟩
theorem quotH {w w1 w2 : World} {s1 s2 : Bool} {A1 A2 : Option Addr} {n1 c1 n2 c2 d q K1 K2 : Nat} {f1 f2 : Bool} (h1 : IntH w1 s1 A1 n1 c1 (d : Int) K1 f1) (h2 : IntH w2 s2 A2 n2 c2 (q : Int) K2 f2) (b1 : Below w1.heap.size w1 w) (b2 : Below w2.heap.size w2 w) (k1 : K1 ≤ 500) (k2 : K2 ≤ 500) (h0 : 0 < q) :
 Calls Tryz.prog 152 #[.agg #[.bool s1, .slice A1 n1 c1], .agg #[.bool s2, .slice A2 n2 c2]] w (MakesInt ((d / q : Nat) : Int) K1 w) := by
 have a1 := h1.abs
 have e1 := h1.len
 have e2 := h2.len
 obtain ⟨l1, g1, z1, -⟩ := h1.lim
 obtain ⟨l2, g2, z2, -⟩ := h2.lim
 have hq := quotient_any s1 s2 A1 A2 n1 c1 n2 c2 l1 l2 w (g1 w b1) (g2 w b2) (by omega) (by omega) (by rw [← z2]; omega)
 rw [← z1, ← z2] at hq
 refine hq.mono fun e w' h => makes_of (by rw [Int.natCast_ediv]; exact h) ?_
 have h6 := Nat.div_le_self d q
 rw [Int.natAbs_natCast] at a1 ⊢
 exact Nat.lt_of_le_of_lt h6 a1
theorem over_q {x : Rat} {z : Int} {d q : Nat} (h : x * (((q : Nat) : Int) : Rat) = (z : Rat)) (hq : q ∣ d) : x * (((d : Nat) : Int) : Rat) = ((z * ((d / q : Nat) : Int) : Int) : Rat) := by
 have e := over_mul (r := ((d / q : Nat) : Int)) h
 rwa [← Int.natCast_mul, Nat.mul_div_cancel' hq] at e
theorem cmpI_ne {x y : Int} (h : x ≠ y) : ∃ C : Int, cmpI x y = C ∧ C ≠ 0 := by
 unfold cmpI
 split
 · exact ⟨_, rfl, by omega⟩
 · first | exact ⟨_, rfl, by omega⟩ | (rw [if_neg h]; exact ⟨_, rfl, by omega⟩)
def Inv1 (L : List Rat) (N D : List Int) (d k : Nat) : Prop := ∀ (j : Nat) (x : Rat), j < k → L[j]? = some x → ∃ (p : Int) (q : Nat), N[j]? = some p ∧ D[j]? = some ((q : Nat) : Int) ∧ x * (((q : Nat) : Int) : Rat) = (p : Rat) ∧ 0 < q ∧ q ∣ d
def Inv2 (L : List Rat) (N D : List Int) (d k : Nat) : Prop := ∀ (j : Nat) (x : Rat), L[j]? = some x → ∃ (z : Int) (q : Nat), N[j]? = some z ∧ D[j]? = some ((q : Nat) : Int) ∧ 0 < q ∧ q ∣ d ∧ (j < k → x * (((d : Nat) : Int) : Rat) = (z : Rat)) ∧ (k ≤ j → x * (((q : Nat) : Int) : Rat) = (z : Rat))
theorem Inv1.step {L : List Rat} {N D : List Int} {d k n q : Nat} {x : Rat} {p : Int} (h : Inv1 L N D d k) (hN : N.length = n) (hD : D.length = n) (hk : k < n) (hx : L[k]? = some x) (he : x * (((q : Nat) : Int) : Rat) = (p : Rat)) (hq : 0 < q) : Inv1 L (N.set k p) (D.set k (q : Int)) (Nat.lcm d q) (k + 1) := by
 intro j y hj hy
 rcases Nat.lt_or_ge j k with hlt | hge
 · obtain ⟨p', q', h1, h2, h3, h4, h5⟩ := h j y hlt hy
   exact ⟨p', q', by rw [List.getElem?_set_ne (by omega)]; exact h1, by rw [List.getElem?_set_ne (by omega)]; exact h2, h3, h4, Nat.dvd_trans h5 (Nat.dvd_lcm_left d q)⟩
 · obtain rfl : j = k := by omega
   obtain rfl : x = y := by rw [hx] at hy; exact Option.some.inj hy
   exact ⟨p, q, by rw [List.getElem?_set_self (by omega)], by rw [List.getElem?_set_self (by omega)], he, hq, Nat.dvd_lcm_right d q⟩
theorem Inv1.turn {L : List Rat} {N D : List Int} {d n : Nat} (h : Inv1 L N D d n) (hL : L.length = n) : Inv2 L N D d 0 := fun j x hx => by
 have hj : j < n := by rw [← hL]; exact (List.getElem?_eq_some_iff.1 hx).1
 obtain ⟨p, q, h1, h2, h3, h4, h5⟩ := h j x hj hx
 exact ⟨p, q, h1, h2, h4, h5, fun h => absurd h (Nat.not_lt_zero _), fun _ => h3⟩
theorem Inv2.skip {L : List Rat} {N D : List Int} {d k : Nat} (h : Inv2 L N D d k) (he : D[k]? = some ((d : Nat) : Int)) : Inv2 L N D d (k + 1) := fun j x hx => by
 obtain ⟨z, q, h1, h2, h3, h4, h5, h6⟩ := h j x hx
 refine ⟨z, q, h1, h2, h3, h4, fun hj => ?_, fun hj => h6 (by omega)⟩
 rcases Nat.lt_or_ge j k with hlt | hge
 · exact h5 hlt
 · obtain rfl : j = k := by omega
   have := h6 (Nat.le_refl _)
   rw [h2] at he
   have e : (q : Int) = (d : Int) := Option.some.inj he
   rwa [e] at this
theorem Inv2.step {L : List Rat} {N D : List Int} {d k n : Nat} {z' : Int} {x : Rat} (h : Inv2 L N D d k) (hN : N.length = n) (hk : k < n) (hx : L[k]? = some x) (he : x * (((d : Nat) : Int) : Rat) = (z' : Rat)) : Inv2 L (N.set k z') D d (k + 1) := fun j y hy => by
 obtain ⟨z, q, h1, h2, h3, h4, h5, h6⟩ := h j y hy
 rcases Nat.lt_trichotomy j k with hlt | rfl | hgt
 · exact ⟨z, q, by rw [List.getElem?_set_ne (by omega)]; exact h1, h2, h3, h4, fun _ => h5 hlt, fun hj => absurd hj (by omega)⟩
 · obtain rfl : x = y := by rw [hx] at hy; exact Option.some.inj hy
   exact ⟨z', q, by rw [List.getElem?_set_self (by omega)], h2, h3, h4, fun _ => he, fun hj => absurd hj (by omega)⟩
 · exact ⟨z, q, by rw [List.getElem?_set_ne (by omega)]; exact h1, h2, h3, h4, fun hj => absurd hj (by omega), fun hj => h6 (by omega)⟩
theorem Inv2.done {L : List Rat} {N D : List Int} {d n : Nat} (h : Inv2 L N D d n) (hL : L.length = n) (hN : N.length = n) (hd : 0 < d) : Vec N (d : Int) L :=
 ⟨by omega, by omega, fun k z x hz hx => by
   obtain ⟨z', q, h1, h2, h3, h4, h5, h6⟩ := h k x hx
   obtain rfl : z' = z := by rw [hz] at h1; exact (Option.some.inj h1).symm
   exact h5 (by rw [← hL]; exact (List.getElem?_eq_some_iff.1 hx).1)⟩
set_option maxRecDepth 100000 in
set_option maxHeartbeats 4000000 in
theorem vectorOf_any {w : World} {A : Option Addr} {n c K : Nat} {L : List Rat} (h : Rts w A n c L K) (hn : n ≤ 8) (hK : K ≤ 3) :
 Calls Tryz.prog 137 #[.slice A n c] w fun e w' => Below w.heap.size w w' ∧ ∃ A' c' s B m e' N d, e = .returned (.agg #[.slice A' n c', .bool s, .slice B m e']) ∧ Its w' A' n c' N (n * 4 + 5) ∧ IntH w' s B m e' d (n * 4 + 1) true ∧ Vec N d L := by
 have hcap := h.cap
 have hmax := h.max
 have HL := Lib.hid h.len
 have H := Lib.hid h
 clear h
 have hmk := makeI_run n (by omega)
 go_enter Tryz.func137, Tryz.ntmps137
 go_upto_region 1 with fail
 go_cut [3] (fun v3 wx => VStart w n v3 wx)
 case first =>
  refine region_goes (n := 7) (fun _ => True) [] (by kernel_rfl) rfl ?_
  generalize hW : (World.drew _) = W0
  have HB0 : Hid (Below w.heap.size w W0) := Lib.hid (by rw [← hW]; exact bl)
  have HZ0 : Hid (Bk W0 w.heap.size 151 #[.slice none 0 0, .bool false, .slice none 0 0]) := Lib.hid (by rw [← hW]; exact bk)
  clear hW
  refine goes_pure (i := 0) (v := .slice A n c) rfl (by kernel_rfl) rfl (fun _ _ _ h => h) (by intro w'; go_simp) trivial ?_
  refine goes_pure (i := 1) (v := .int .i64 (n : Int)) rfl (by kernel_rfl) rfl (fun _ _ _ h => h) (by intro w'; go_simp) trivial ?_
  refine goes_or3 (i := 2) (j := 3) (k := 5) rfl rfl rfl (by kernel_rfl) ?_ ?_ ?_
  · skip
    go_wp2_with fail
    refine behind_ok ?_
    obtain ⟨g, hg⟩ : ∃ x, W0.heap.size = x := ⟨_, rfl⟩
    rw [hg]
    have lg : w.heap.size < g := by have := HZ0.out.lt; omega
    generalize hW : (World.alloc _ _) = W1
    have hb1 : Below W0.heap.size W0 W1 := by rw [← hW]; exact below_alloc1 _ _
    have HB1 := Lib.hid (below_to HB0.out hb1 HB0.out.size)
    have HZ1 := Lib.hid (HZ0.out.below hb1 HZ0.out.lt)
    have HR1 : Hid (RowI W1 g n (List.replicate n 0) (fun _ => 4)) := Lib.hid (by rw [← hW]; exact RowI.at_ hg)
    clear hW hb1 hg
    refine goes_or2 (i := 3) (j := 5) rfl rfl (by kernel_rfl) ?_ ?_
    · skip
      go_wp2_with (go_at_call 12; go_loud (refine (one_H _).mono ?_; rintro e W2 ⟨hb2, s, B, m, e, rfl, ia⟩))
      have HB2 := Lib.hid (below_to HB1.out hb2 HB1.out.size)
      have HZ2 := Lib.hid (HZ1.out.below hb2 HZ1.out.lt)
      have HR2 := Lib.hid (HR1.out.later hb2)
      have HI2 := Lib.hid ia
      clear hb2 ia
      refine behind_ok ?_
      refine goes_pure (i := 4) (v := .agg #[.slice (some ⟨g, 0, none⟩) n n, .bool s, .slice B m e]) rfl (by kernel_rfl) rfl (fun _ _ _ h => h) (by intro w'; go_simp) trivial ?_
      refine goes_one (i := 5) rfl (by kernel_rfl) ?_
      go_wp2_with fail
      refine behind_ok ?_
      obtain ⟨gv, hgv⟩ : ∃ x, W2.heap.size = x := ⟨_, rfl⟩
      rw [hgv]
      have lgv : w.heap.size < gv := by have := HZ2.out.lt; omega
      have hne : g ≠ gv := by have := HR2.out.lt; omega
      generalize hW : (World.alloc _ _) = W3
      have hb3 : Below W2.heap.size W2 W3 := by rw [← hW]; exact below_alloc1 _ _
      have HB3 := Lib.hid (below_to HB2.out hb3 HB2.out.size)
      have HZ3 := Lib.hid (HZ2.out.below hb3 HZ2.out.lt)
      have HR3 := Lib.hid (HR2.out.later hb3)
      have HI3 := Lib.hid (HI2.out.later hb3)
      have HV3 : Hid (Bk W3 gv 151 #[.slice none 0 0, .bool false, .slice none 0 0]) := Lib.hid (by rw [← hW]; exact Bk.at_ hgv)
      clear hW hb3 hgv
      have HC := And.intro HB3 (And.intro HZ3 (And.intro HR3 (And.intro HV3 HI3)))
      obtain ⟨a0, a1, a2⟩ := HV3.out.trio
      have a3 := HV3.out.frozen 0
      have a4 := HV3.out.frozen 1
      have a5 := HV3.out.frozen 2
      refine gc 6 ?_
      go_wp2_with fail
      refine behind_ok ⟨trivial, ?_⟩
      refine goes_done (by kernel_rfl) ?_
      go_wp2_with fail
      go_meet
      exact vec_store HC.1.out HC.2.1.out HC.2.2.1.out HC.2.2.2.1.out HC.2.2.2.2.out lg lgv hne
    · skip
      go_wp2_with fail
      refine behind_ok ?_
      obtain ⟨gv, hgv⟩ : ∃ x, W1.heap.size = x := ⟨_, rfl⟩
      rw [hgv]
      have lgv : w.heap.size < gv := by have := HZ1.out.lt; omega
      have hne : g ≠ gv := by have := HR1.out.lt; omega
      generalize hW : (World.alloc _ _) = W2
      have hb2 : Below W1.heap.size W1 W2 := by rw [← hW]; exact below_alloc1 _ _
      have HB2 := Lib.hid (below_to HB1.out hb2 HB1.out.size)
      have HZ2 := Lib.hid (HZ1.out.below hb2 HZ1.out.lt)
      have HR2 := Lib.hid (HR1.out.later hb2)
      have HV2 : Hid (Bk W2 gv 151 #[.slice none 0 0, .bool false, .slice none 0 0]) := Lib.hid (by rw [← hW]; exact Bk.at_ hgv)
      clear hW hb2 hgv
      refine goes_one (i := 3) rfl (by kernel_rfl) ?_
      go_wp2_with (go_at_call 12; go_loud (refine (one_H _).mono ?_; rintro e W3 ⟨hb3, s, B, m, e, rfl, ia⟩))
      have HB3 := Lib.hid (below_to HB2.out hb3 HB2.out.size)
      have HZ3 := Lib.hid (HZ2.out.below hb3 HZ2.out.lt)
      have HR3 := Lib.hid (HR2.out.later hb3)
      have HV3 := Lib.hid (HV2.out.below hb3 HV2.out.lt)
      have HI3 := Lib.hid ia
      clear hb3 ia
      refine behind_ok ?_
      refine goes_pure (i := 4) (v := .agg #[.slice (some ⟨g, 0, none⟩) n n, .bool s, .slice B m e]) rfl (by kernel_rfl) rfl (fun _ _ _ h => h) (by intro w'; go_simp) trivial ?_
      have HC := And.intro HB3 (And.intro HZ3 (And.intro HR3 (And.intro HV3 HI3)))
      obtain ⟨a0, a1, a2⟩ := HV3.out.trio
      have a3 := HV3.out.frozen 0
      have a4 := HV3.out.frozen 1
      have a5 := HV3.out.frozen 2
      refine gc 6 ?_
      go_wp2_with fail
      refine behind_ok ⟨trivial, ?_⟩
      refine goes_done (by kernel_rfl) ?_
      go_wp2_with fail
      go_meet
      exact vec_store HC.1.out HC.2.1.out HC.2.2.1.out HC.2.2.2.1.out HC.2.2.2.2.out lg lgv hne
  · skip
    go_wp2_with (go_at_call 12; go_loud (refine (one_H _).mono ?_; rintro e W1 ⟨hb1, s, B, m, e, rfl, ia⟩))
    have HB1 := Lib.hid (below_to HB0.out hb1 HB0.out.size)
    have HZ1 := Lib.hid (HZ0.out.below hb1 HZ0.out.lt)
    have HI1 := Lib.hid ia
    clear hb1 ia
    refine behind_ok ?_
    refine goes_or2 (i := 2) (j := 5) rfl rfl (by kernel_rfl) ?_ ?_
    · skip
      go_wp2_with fail
      refine behind_ok ?_
      obtain ⟨g, hg⟩ : ∃ x, W1.heap.size = x := ⟨_, rfl⟩
      rw [hg]
      have lg : w.heap.size < g := by have := HZ1.out.lt; omega
      generalize hW : (World.alloc _ _) = W2
      have hb2 : Below W1.heap.size W1 W2 := by rw [← hW]; exact below_alloc1 _ _
      have HB2 := Lib.hid (below_to HB1.out hb2 HB1.out.size)
      have HZ2 := Lib.hid (HZ1.out.below hb2 HZ1.out.lt)
      have HI2 := Lib.hid (HI1.out.later hb2)
      have HR2 : Hid (RowI W2 g n (List.replicate n 0) (fun _ => 4)) := Lib.hid (by rw [← hW]; exact RowI.at_ hg)
      clear hW hb2 hg
      refine goes_pure (i := 4) (v := .agg #[.slice (some ⟨g, 0, none⟩) n n, .bool s, .slice B m e]) rfl (by kernel_rfl) rfl (fun _ _ _ h => h) (by intro w'; go_simp) trivial ?_
      refine goes_one (i := 5) rfl (by kernel_rfl) ?_
      go_wp2_with fail
      refine behind_ok ?_
      obtain ⟨gv, hgv⟩ : ∃ x, W2.heap.size = x := ⟨_, rfl⟩
      rw [hgv]
      have lgv : w.heap.size < gv := by have := HZ2.out.lt; omega
      have hne : g ≠ gv := by have := HR2.out.lt; omega
      generalize hW : (World.alloc _ _) = W3
      have hb3 : Below W2.heap.size W2 W3 := by rw [← hW]; exact below_alloc1 _ _
      have HB3 := Lib.hid (below_to HB2.out hb3 HB2.out.size)
      have HZ3 := Lib.hid (HZ2.out.below hb3 HZ2.out.lt)
      have HR3 := Lib.hid (HR2.out.later hb3)
      have HI3 := Lib.hid (HI2.out.later hb3)
      have HV3 : Hid (Bk W3 gv 151 #[.slice none 0 0, .bool false, .slice none 0 0]) := Lib.hid (by rw [← hW]; exact Bk.at_ hgv)
      clear hW hb3 hgv
      have HC := And.intro HB3 (And.intro HZ3 (And.intro HR3 (And.intro HV3 HI3)))
      obtain ⟨a0, a1, a2⟩ := HV3.out.trio
      have a3 := HV3.out.frozen 0
      have a4 := HV3.out.frozen 1
      have a5 := HV3.out.frozen 2
      refine gc 6 ?_
      go_wp2_with fail
      refine behind_ok ⟨trivial, ?_⟩
      refine goes_done (by kernel_rfl) ?_
      go_wp2_with fail
      go_meet
      exact vec_store HC.1.out HC.2.1.out HC.2.2.1.out HC.2.2.2.1.out HC.2.2.2.2.out lg lgv hne
    · skip
      go_wp2_with fail
      refine behind_ok ?_
      obtain ⟨gv, hgv⟩ : ∃ x, W1.heap.size = x := ⟨_, rfl⟩
      rw [hgv]
      have lgv : w.heap.size < gv := by have := HZ1.out.lt; omega
      generalize hW : (World.alloc _ _) = W2
      have hb2 : Below W1.heap.size W1 W2 := by rw [← hW]; exact below_alloc1 _ _
      have HB2 := Lib.hid (below_to HB1.out hb2 HB1.out.size)
      have HZ2 := Lib.hid (HZ1.out.below hb2 HZ1.out.lt)
      have HI2 := Lib.hid (HI1.out.later hb2)
      have HV2 : Hid (Bk W2 gv 151 #[.slice none 0 0, .bool false, .slice none 0 0]) := Lib.hid (by rw [← hW]; exact Bk.at_ hgv)
      clear hW hb2 hgv
      refine goes_one (i := 2) rfl (by kernel_rfl) ?_
      go_wp2_with fail
      refine behind_ok ?_
      obtain ⟨g, hg⟩ : ∃ x, W2.heap.size = x := ⟨_, rfl⟩
      rw [hg]
      have lg : w.heap.size < g := by have := HZ2.out.lt; omega
      have hne : g ≠ gv := by have := HV2.out.lt; omega
      generalize hW : (World.alloc _ _) = W3
      have hb3 : Below W2.heap.size W2 W3 := by rw [← hW]; exact below_alloc1 _ _
      have HB3 := Lib.hid (below_to HB2.out hb3 HB2.out.size)
      have HZ3 := Lib.hid (HZ2.out.below hb3 HZ2.out.lt)
      have HV3 := Lib.hid (HV2.out.below hb3 HV2.out.lt)
      have HI3 := Lib.hid (HI2.out.later hb3)
      have HR3 : Hid (RowI W3 g n (List.replicate n 0) (fun _ => 4)) := Lib.hid (by rw [← hW]; exact RowI.at_ hg)
      clear hW hb3 hg
      refine goes_pure (i := 4) (v := .agg #[.slice (some ⟨g, 0, none⟩) n n, .bool s, .slice B m e]) rfl (by kernel_rfl) rfl (fun _ _ _ h => h) (by intro w'; go_simp) trivial ?_
      have HC := And.intro HB3 (And.intro HZ3 (And.intro HR3 (And.intro HV3 HI3)))
      obtain ⟨a0, a1, a2⟩ := HV3.out.trio
      have a3 := HV3.out.frozen 0
      have a4 := HV3.out.frozen 1
      have a5 := HV3.out.frozen 2
      refine gc 6 ?_
      go_wp2_with fail
      refine behind_ok ⟨trivial, ?_⟩
      refine goes_done (by kernel_rfl) ?_
      go_wp2_with fail
      go_meet
      exact vec_store HC.1.out HC.2.1.out HC.2.2.1.out HC.2.2.2.1.out HC.2.2.2.2.out lg lgv hne
  · skip
    go_wp2_with fail
    refine behind_ok ?_
    obtain ⟨gv, hgv⟩ : ∃ x, W0.heap.size = x := ⟨_, rfl⟩
    rw [hgv]
    have lgv : w.heap.size < gv := by have := HZ0.out.lt; omega
    generalize hW : (World.alloc _ _) = W1
    have hb1 : Below W0.heap.size W0 W1 := by rw [← hW]; exact below_alloc1 _ _
    have HB1 := Lib.hid (below_to HB0.out hb1 HB0.out.size)
    have HZ1 := Lib.hid (HZ0.out.below hb1 HZ0.out.lt)
    have HV1 : Hid (Bk W1 gv 151 #[.slice none 0 0, .bool false, .slice none 0 0]) := Lib.hid (by rw [← hW]; exact Bk.at_ hgv)
    clear hW hb1 hgv
    refine goes_or2 (i := 2) (j := 3) rfl rfl (by kernel_rfl) ?_ ?_
    · skip
      go_wp2_with fail
      refine behind_ok ?_
      obtain ⟨g, hg⟩ : ∃ x, W1.heap.size = x := ⟨_, rfl⟩
      rw [hg]
      have lg : w.heap.size < g := by have := HZ1.out.lt; omega
      have hne : g ≠ gv := by have := HV1.out.lt; omega
      generalize hW : (World.alloc _ _) = W2
      have hb2 : Below W1.heap.size W1 W2 := by rw [← hW]; exact below_alloc1 _ _
      have HB2 := Lib.hid (below_to HB1.out hb2 HB1.out.size)
      have HZ2 := Lib.hid (HZ1.out.below hb2 HZ1.out.lt)
      have HV2 := Lib.hid (HV1.out.below hb2 HV1.out.lt)
      have HR2 : Hid (RowI W2 g n (List.replicate n 0) (fun _ => 4)) := Lib.hid (by rw [← hW]; exact RowI.at_ hg)
      clear hW hb2 hg
      refine goes_one (i := 3) rfl (by kernel_rfl) ?_
      go_wp2_with (go_at_call 12; go_loud (refine (one_H _).mono ?_; rintro e W3 ⟨hb3, s, B, m, e, rfl, ia⟩))
      have HB3 := Lib.hid (below_to HB2.out hb3 HB2.out.size)
      have HZ3 := Lib.hid (HZ2.out.below hb3 HZ2.out.lt)
      have HR3 := Lib.hid (HR2.out.later hb3)
      have HV3 := Lib.hid (HV2.out.below hb3 HV2.out.lt)
      have HI3 := Lib.hid ia
      clear hb3 ia
      refine behind_ok ?_
      refine goes_pure (i := 4) (v := .agg #[.slice (some ⟨g, 0, none⟩) n n, .bool s, .slice B m e]) rfl (by kernel_rfl) rfl (fun _ _ _ h => h) (by intro w'; go_simp) trivial ?_
      have HC := And.intro HB3 (And.intro HZ3 (And.intro HR3 (And.intro HV3 HI3)))
      obtain ⟨a0, a1, a2⟩ := HV3.out.trio
      have a3 := HV3.out.frozen 0
      have a4 := HV3.out.frozen 1
      have a5 := HV3.out.frozen 2
      refine gc 6 ?_
      go_wp2_with fail
      refine behind_ok ⟨trivial, ?_⟩
      refine goes_done (by kernel_rfl) ?_
      go_wp2_with fail
      go_meet
      exact vec_store HC.1.out HC.2.1.out HC.2.2.1.out HC.2.2.2.1.out HC.2.2.2.2.out lg lgv hne
    · skip
      go_wp2_with (go_at_call 12; go_loud (refine (one_H _).mono ?_; rintro e W2 ⟨hb2, s, B, m, e, rfl, ia⟩))
      have HB2 := Lib.hid (below_to HB1.out hb2 HB1.out.size)
      have HZ2 := Lib.hid (HZ1.out.below hb2 HZ1.out.lt)
      have HV2 := Lib.hid (HV1.out.below hb2 HV1.out.lt)
      have HI2 := Lib.hid ia
      clear hb2 ia
      refine behind_ok ?_
      refine goes_one (i := 2) rfl (by kernel_rfl) ?_
      go_wp2_with fail
      refine behind_ok ?_
      obtain ⟨g, hg⟩ : ∃ x, W2.heap.size = x := ⟨_, rfl⟩
      rw [hg]
      have lg : w.heap.size < g := by have := HZ2.out.lt; omega
      have hne : g ≠ gv := by have := HV2.out.lt; omega
      generalize hW : (World.alloc _ _) = W3
      have hb3 : Below W2.heap.size W2 W3 := by rw [← hW]; exact below_alloc1 _ _
      have HB3 := Lib.hid (below_to HB2.out hb3 HB2.out.size)
      have HZ3 := Lib.hid (HZ2.out.below hb3 HZ2.out.lt)
      have HV3 := Lib.hid (HV2.out.below hb3 HV2.out.lt)
      have HI3 := Lib.hid (HI2.out.later hb3)
      have HR3 : Hid (RowI W3 g n (List.replicate n 0) (fun _ => 4)) := Lib.hid (by rw [← hW]; exact RowI.at_ hg)
      clear hW hb3 hg
      refine goes_pure (i := 4) (v := .agg #[.slice (some ⟨g, 0, none⟩) n n, .bool s, .slice B m e]) rfl (by kernel_rfl) rfl (fun _ _ _ h => h) (by intro w'; go_simp) trivial ?_
      have HC := And.intro HB3 (And.intro HZ3 (And.intro HR3 (And.intro HV3 HI3)))
      obtain ⟨a0, a1, a2⟩ := HV3.out.trio
      have a3 := HV3.out.frozen 0
      have a4 := HV3.out.frozen 1
      have a5 := HV3.out.frozen 2
      refine gc 6 ?_
      go_wp2_with fail
      refine behind_ok ⟨trivial, ?_⟩
      refine goes_done (by kernel_rfl) ?_
      go_wp2_with fail
      go_meet
      exact vec_store HC.1.out HC.2.1.out HC.2.2.1.out HC.2.2.2.1.out HC.2.2.2.2.out lg lgv hne
 case rest =>
  obtain ⟨g, gv, s, B, m, e, rfl, lg, lgv, hne, hb, hz, hr, hv, hi⟩ := hcut
  obtain ⟨g4, hg4⟩ : ∃ x, wc.heap.size = x := ⟨_, rfl⟩
  go_upto_region 3 with fail
  have n4 : g < g4 := by have := hr.lt; omega
  have n5 : gv < g4 := by have := hv.lt; omega
  generalize hW : (World.alloc _ _) = W
  have hbW : Below wc.heap.size wc W := by rw [← hW]; exact below_alloc1 _ _
  have HBW := Lib.hid (below_to hb hbW hb.size)
  have HZW := Lib.hid (hz.below hbW hz.lt)
  have HRW := Lib.hid (hr.later hbW)
  have HVW := Lib.hid (hv.below hbW hv.lt)
  have HIW := Lib.hid (hi.later hbW)
  have HDW : Hid (RowI W g4 n (List.replicate n 0) (fun _ => 4)) := Lib.hid (by rw [← hW]; exact RowI.at_ hg4)
  clear hW hbW hg4 hb hz hr hv hi
  go_wp2
  go_loopw [5, 6, 19] (fun _ _ v19 wr => ∃ (k : Nat) (s : Bool) (B : Option Addr) (m e : Nat) (N D : List Int) (d : Nat), k ≤ n ∧ v19 = .int .i64 (k : Int) ∧ Below w.heap.size w wr ∧ Bk wr w.heap.size 151 #[.slice none 0 0, .bool false, .slice none 0 0] ∧ RowI wr g n N (fun _ => 4) ∧ RowI wr g4 n D (fun _ => 4) ∧ Bk wr gv 151 #[.slice (some ⟨g, 0, none⟩) n n, .bool s, .slice B m e] ∧ IntH wr s B m e (d : Int) (1 + k * 4) true ∧ 0 < d ∧ Hid (Inv1 L N D d k)) (fun _ _ v19 _ => n - (intOf v19).toNat)
  case atStart => exact ⟨0, s, B, m, e, _, _, 1, Nat.zero_le _, rfl, HBW.out, HZW.out, HRW.out, HDW.out, HVW.out, HIW.out, by omega, Lib.hid fun j x hj => absurd hj (Nat.not_lt_zero _)⟩
  case round =>
   clear HBW HZW HRW HDW HVW HIW
   obtain ⟨k, s, B, m, e, N, D, d, hk, rfl, hb, hz, hr, hdd, hv, hi, hd0, HINV⟩ := hrel
   obtain ⟨wo, hwo⟩ : ∃ z, z = wr := ⟨_, rfl⟩
   subst hwo
   have HB := Lib.hid hb
   have HZ := Lib.hid hz
   have HR := Lib.hid hr
   have HD := Lib.hid hdd
   have HV := Lib.hid hv
   have HI := Lib.hid hi
   clear hb hz hr hdd hv hi
   have ow := HB.out.size
   rcases Nat.lt_or_ge k n with hlt | hge
   · obtain ⟨x, hx⟩ : ∃ x, L[k]? = some x := ⟨L[k]'(by rw [HL.out]; exact hlt), List.getElem?_eq_getElem _⟩
     obtain ⟨b, o, s1, A1, n1, c1, s2, A2, n2, c2, rfl, hbl, fa⟩ := H.out.at_ k x hx
     have y0 := (HB.out.cell (p := ⟨b, o + k * 4, none⟩) hbl).trans fa.ha
     have y1 := (HB.out.cell (p := ⟨b, o + k * 4 + 1, none⟩) hbl).trans fa.hb
     have y2 := (HB.out.cell (p := ⟨b, o + k * 4 + 2, none⟩) hbl).trans fa.hc
     have y3 := (HB.out.cell (p := ⟨b, o + k * 4 + 3, none⟩) hbl).trans fa.hd
     have HF := Lib.hid fa.r
     have HX := Lib.hid hx
     clear hx fa
     have zk : (0 : Int) ≤ (k : Int) := by omega
     have zn : (k : Int) < (n : Int) := by omega
     obtain ⟨g6, hg6⟩ : ∃ x, wo.heap.size = x := ⟨_, rfl⟩
     go_upto_region 6 with fail
     have l6 : gv < g6 := by have := HV.out.lt; omega
     have l7 : g < g6 := by have := HR.out.lt; omega
     have l8 : g4 < g6 := by have := HD.out.lt; omega
     generalize hW : (World.alloc _ _) = Wa
     have hBa : Below wo.heap.size wo Wa := by rw [← hW]; exact below_alloc1 _ _
     have HXa : Hid (Bk Wa g6 41 #[.bool s1, .slice A1 n1 c1, .bool s2, .slice A2 n2 c2]) := Lib.hid (by rw [← hW]; exact Bk.at_ hg6)
     have HBa := Lib.hid (below_to HB.out hBa HB.out.size); have HZa := Lib.hid (HZ.out.below hBa HZ.out.lt); have HRa := Lib.hid (HR.out.later hBa); have HDa := Lib.hid (HD.out.later hBa); have HVa := Lib.hid (HV.out.below hBa HV.out.lt)
     have HIa := Lib.hid (HI.out.later hBa)
     clear hW hBa hg6 y0 y1 y2 y3
     have hC6 : (fun w' : World => w'.cell? ⟨gv, 0, none⟩ = some (.slice (some ⟨g, 0, none⟩) n n) ∧ w'.cell? ⟨g6, 0, none⟩ = some (.bool s1) ∧ w'.cell? ⟨g6, 1, none⟩ = some (.slice A1 n1 c1) ∧ w'.cell? ⟨g6, 2, none⟩ = some (.bool s2) ∧ w'.cell? ⟨g6, 3, none⟩ = some (.slice A2 n2 c2)) Wa.drew := ⟨HVa.out.trio.1, HXa.out.four4⟩
     refine region_goes (n := 14) (fun w' : World => w'.cell? ⟨gv, 0, none⟩ = some (.slice (some ⟨g, 0, none⟩) n n) ∧ w'.cell? ⟨g6, 0, none⟩ = some (.bool s1) ∧ w'.cell? ⟨g6, 1, none⟩ = some (.slice A1 n1 c1) ∧ w'.cell? ⟨g6, 2, none⟩ = some (.bool s2) ∧ w'.cell? ⟨g6, 3, none⟩ = some (.slice A2 n2 c2)) [] (by kernel_rfl) rfl ?_
     refine gt5 0 [] (.pointer (some ⟨gv, 0, none⟩)) hC6 ?_
     refine gt5 1 [] (.slice (some ⟨g, 0, none⟩) n n) hC6 ?_
     refine gt5 2 [] (.int .i64 (k : Int)) hC6 ?_
     refine gt5 3 [] (.slice (some ⟨g4, 0, none⟩) n n) hC6 ?_
     refine gt5 4 [] (.int .i64 (k : Int)) hC6 ?_
     refine gt5 5 [] (.agg #[.bool s1, .slice A1 n1 c1, .bool s2, .slice A2 n2 c2]) hC6 ?_
     refine gc 6 ?_
     clear hC6
     go_wp2_with (go_at_call 73; go_loud (with_reducible refine (termsP HF.out (Below.drew HBa.out) (by omega)).mono ?_; rintro e wt ⟨hbt0, sp, Ap, np, cp, sq, Aq, nq, cq, p, q, rfl, ip, iq, hxq, hq0⟩; have hbt := below_drew hbt0; have HBt := Lib.hid (below_to HBa.out hbt HBa.out.size); have HZt := Lib.hid (HZa.out.below hbt HZa.out.lt); have HRt := Lib.hid (HRa.out.later hbt); have HDt := Lib.hid (HDa.out.later hbt); have HVt := Lib.hid (HVa.out.below hbt HVa.out.lt); have HIt := Lib.hid (HIa.out.later hbt); have HXt := Lib.hid (HXa.out.below hbt HXa.out.lt); have HP := Lib.hid ip; have HQ := Lib.hid iq; have HXQ := Lib.hid hxq; clear hbt hbt0 ip iq hxq))
     have hC6 : (fun w' : World => w'.cell? ⟨gv, 0, none⟩ = some (.slice (some ⟨g, 0, none⟩) n n) ∧ w'.cell? ⟨g6, 0, none⟩ = some (.bool s1) ∧ w'.cell? ⟨g6, 1, none⟩ = some (.slice A1 n1 c1) ∧ w'.cell? ⟨g6, 2, none⟩ = some (.bool s2) ∧ w'.cell? ⟨g6, 3, none⟩ = some (.slice A2 n2 c2)) wt := ⟨HVt.out.trio.1, HXt.out.four4⟩
     refine behind_ok ⟨hC6, ?_⟩
     refine gt5 7 [] (.tuple #[.agg #[.bool sp, .slice Ap np cp], .agg #[.bool sq, .slice Aq nq cq]]) hC6 ?_
     refine gt5 8 [] (.agg #[.bool sp, .slice Ap np cp]) hC6 ?_
     refine gt5 9 [] (.agg #[.bool sq, .slice Aq nq cq]) hC6 ?_
     refine gt5 10 [] (.pointer (some ⟨g, k * 2, none⟩)) hC6 ?_
     refine gc 11 ?_
     obtain ⟨u0, u1, q0, q1, f0, f1⟩ := HRt.out.old hlt
     clear hC6
     go_wp2_with fail
     obtain ⟨V1, hV1, b1, r1, r2, r3, r4, -, -⟩ := HRt.out.put HBt.out (show w.heap.size ≤ g by omega) hlt (K' := fun _ => 4) HP.out (fun _ _ => Nat.le_refl _)
     rw [← hV1]
     clear hV1 q0 q1 f0 f1
     have HB1 := Lib.hid b1
     have HR1 := Lib.hid r1
     have HD1 := Lib.hid (r2 _ _ _ _ (by omega) HDt.out)
     have HV1 := Lib.hid (r3 _ _ _ (Ne.symm hne) HVt.out)
     have HZ1 := Lib.hid (r3 _ _ _ (by omega) HZt.out)
     have HX1 := Lib.hid (r3 _ _ _ (by omega) HXt.out)
     have HI1 := Lib.hid (r4 _ _ _ _ _ _ _ HIt.out)
     have HQ1 := Lib.hid (r4 _ _ _ _ _ _ _ HQ.out)
     clear b1 r1 r2 r3 r4
     have hC6 : (fun w' : World => w'.cell? ⟨gv, 0, none⟩ = some (.slice (some ⟨g, 0, none⟩) n n) ∧ w'.cell? ⟨g6, 0, none⟩ = some (.bool s1) ∧ w'.cell? ⟨g6, 1, none⟩ = some (.slice A1 n1 c1) ∧ w'.cell? ⟨g6, 2, none⟩ = some (.bool s2) ∧ w'.cell? ⟨g6, 3, none⟩ = some (.slice A2 n2 c2)) V1 := ⟨HV1.out.trio.1, HX1.out.four4⟩
     refine behind_ok ⟨hC6, ?_⟩
     refine gt5 12 [] (.pointer (some ⟨g4, k * 2, none⟩)) hC6 ?_
     clear hC6
     refine gc 13 ?_
     obtain ⟨u2, u3, q0, q1, f0, f1⟩ := HD1.out.old hlt
     go_wp2_with fail
     obtain ⟨V2, hV2, b1, r1, r2, r3, r4, t0, t1⟩ := HD1.out.put HB1.out (show w.heap.size ≤ g4 by omega) hlt (K' := fun _ => 4) (HQ1.out.soft) (fun _ _ => Nat.le_refl _)
     rw [← hV2]
     clear hV2 q0 q1 f0 f1
     have HB2 := Lib.hid b1
     have HD2 := Lib.hid r1
     have HR2 := Lib.hid (r2 _ _ _ _ (by omega) HR1.out)
     have HV2 := Lib.hid (r3 _ _ _ (by omega) HV1.out)
     have HZ2 := Lib.hid (r3 _ _ _ (by omega) HZ1.out)
     have HX2 := Lib.hid (r3 _ _ _ (by omega) HX1.out)
     have HI2 := Lib.hid (r4 _ _ _ _ _ _ _ HI1.out)
     have HQ2 := Lib.hid (r4 _ _ _ _ _ _ _ HQ1.out)
     have HT2 := Lib.hid (And.intro t0 t1)
     clear b1 r1 r2 r3 r4 t0 t1
     refine behind_ok ⟨⟨HV2.out.trio.1, HX2.out.four4⟩, ?_⟩
     refine goes_done (by kernel_rfl) ?_
     go_upto_region 7 with fail
     have hC7 : (fun w' : World => w'.cell? ⟨gv, 1, none⟩ = some (.bool s) ∧ w'.cell? ⟨gv, 2, none⟩ = some (.slice B m e) ∧ w'.cell? ⟨g4, k * 2, none⟩ = some (.bool sq) ∧ w'.cell? ⟨g4, k * 2 + 1, none⟩ = some (.slice Aq nq cq) ∧ True) V2.drew := ⟨HV2.out.trio.2.1, HV2.out.trio.2.2, HT2.out.1, HT2.out.2, trivial⟩
     refine region_goes (n := 9) (fun w' : World => w'.cell? ⟨gv, 1, none⟩ = some (.bool s) ∧ w'.cell? ⟨gv, 2, none⟩ = some (.slice B m e) ∧ w'.cell? ⟨g4, k * 2, none⟩ = some (.bool sq) ∧ w'.cell? ⟨g4, k * 2 + 1, none⟩ = some (.slice Aq nq cq) ∧ True) [8] (by kernel_rfl) rfl ?_
     refine gt5 0 [1, 6, 8] (.pointer (some ⟨gv, 1, none⟩)) hC7 ?_
     refine gt5 1 [6, 8] (.agg #[.bool s, .slice B m e]) hC7 ?_
     refine gt5 2 [4, 5, 6, 8] (.slice (some ⟨g4, 0, none⟩) n n) hC7 ?_
     refine gt5 3 [4, 5, 6, 8] (.int .i64 (k : Int)) hC7 ?_
     refine gt5 4 [5, 6, 8] (.pointer (some ⟨g4, k * 2, none⟩)) hC7 ?_
     refine gt5 5 [6, 8] (.agg #[.bool sq, .slice Aq nq cq]) hC7 ?_
     refine gc 6 ?_
     clear hC7
     go_wp2_with (go_at_call 151; go_loud (with_reducible refine (commonMul_any HI2.out HQ2.out (Below.drew (Below.refl _ _)) (Below.drew (Below.refl _ _)) hd0 hq0 (by omega) (by omega)).mono ?_; rintro e wm ⟨hbm0, sm, Am, nm, cm, rfl, im⟩; have hbm := below_drew hbm0; have HBm := Lib.hid (below_to HB2.out hbm HB2.out.size); have HZm := Lib.hid (HZ2.out.below hbm HZ2.out.lt); have HRm := Lib.hid (HR2.out.later hbm); have HDm := Lib.hid (HD2.out.later hbm); have HVm := Lib.hid (HV2.out.below hbm HV2.out.lt); have HIm := Lib.hid im; have HTm := Lib.hid (And.intro ((hbm.cell (p := ⟨g4, k * 2, none⟩) HD2.out.lt).trans HT2.out.1) ((hbm.cell (p := ⟨g4, k * 2 + 1, none⟩) HD2.out.lt).trans HT2.out.2)); clear hbm hbm0 im))
     have hC7 : (fun w' : World => w'.cell? ⟨gv, 1, none⟩ = some (.bool s) ∧ w'.cell? ⟨gv, 2, none⟩ = some (.slice B m e) ∧ w'.cell? ⟨g4, k * 2, none⟩ = some (.bool sq) ∧ w'.cell? ⟨g4, k * 2 + 1, none⟩ = some (.slice Aq nq cq) ∧ True) wm := ⟨HVm.out.trio.2.1, HVm.out.trio.2.2, HTm.out.1, HTm.out.2, trivial⟩
     refine behind_ok ⟨hC7, ?_⟩
     refine gt5 7 [8] (.pointer (some ⟨gv, 1, none⟩)) hC7 ?_
     clear hC7
     refine goes_last (i := 8) rfl (by kernel_rfl) (by kernel_rfl) ?_
     obtain ⟨q0, q1, q2⟩ := HVm.out.trio
     have f1 := HVm.out.frozen 1
     have f2 := HVm.out.frozen 2
     go_wp2_with fail
     obtain ⟨V3, hV3, b1, v1, r2, r3, r4⟩ := den_put HVm.out HBm.out (show w.heap.size ≤ gv by omega) sm Am nm cm
     rw [← hV3]
     clear hV3 q0 q1 q2 f1 f2
     have HR3 := Lib.hid (r2 _ _ _ _ hne HRm.out)
     have HD3 := Lib.hid (r2 _ _ _ _ (by omega) HDm.out)
     have HZ3 := Lib.hid (r3 _ _ _ (by omega) HZm.out)
     have HI3 := Lib.hid (r4 _ _ _ _ _ _ _ HIm.out)
     have HB3 := Lib.hid b1
     have HV3 := Lib.hid v1
     clear b1 v1 r2 r3 r4
     have e3 : 1 + k * 4 + 4 = 1 + (k + 1) * 4 := by omega
     rw [e3] at HI3
     refine behind_ok ?_
     refine goes_done (by kernel_rfl) ?_
     go_wp2
     go_roundw
     case rel => exact ⟨k + 1, sm, Am, nm, cm, N.set k p, D.set k ((q : Nat) : Int), Nat.lcm d q, by omega, by go_num, HB3.out, HZ3.out, HR3.out, HD3.out, HV3.out, HI3.out, Nat.lcm_pos hd0 hq0, Lib.hid (HINV.out.step HR.out.len HD.out.len hlt HX.out HXQ.out hq0)⟩
     case measure => simp [intOf]; omega
   · obtain rfl : n = k := by omega
     have HINW := Lib.hid (HINV.out.turn HL.out)
     have HI3 := Lib.hid (HI.out.widn (show 1 + n * 4 ≤ n * 4 + 1 by omega))
     have HR3 := Lib.hid (HR.out.wide (K' := (fun j => if j < 0 then n * 4 + 5 else 4)) (fun j => by simp))
     clear HINV hk hge HI HR
     go_wp2
     go_loopw [7, 8, 47] (fun _ _ v47 wr => ∃ (k : Nat) (N : List Int), k ≤ n ∧ v47 = .int .i64 (k : Int) ∧ Below w.heap.size w wr ∧ Bk wr w.heap.size 151 #[.slice none 0 0, .bool false, .slice none 0 0] ∧ RowI wr g n N (fun j => if j < k then n * 4 + 5 else 4) ∧ RowI wr g4 n D (fun _ => 4) ∧ Bk wr gv 151 #[.slice (some ⟨g, 0, none⟩) n n, .bool s, .slice B m e] ∧ IntH wr s B m e (d : Int) (n * 4 + 1) true ∧ Hid (Inv2 L N D d k)) (fun _ _ v47 _ => n - (intOf v47).toNat)
     case atStart => exact ⟨0, N, Nat.zero_le _, rfl, HB.out, HZ.out, HR3.out, HD.out, HV.out, HI3.out, HINW⟩
     case round =>
      clear HB HZ HR3 HD HV HI3 HINW
      obtain ⟨k, N, hk, rfl, hb, hz, hr, hdd, hv, hi, HINV⟩ := hrel
      obtain ⟨wo, hwo⟩ : ∃ z, z = wr := ⟨_, rfl⟩
      subst hwo
      have HB := Lib.hid hb
      have HZ := Lib.hid hz
      have HR := Lib.hid hr
      have HD := Lib.hid hdd
      have HV := Lib.hid hv
      have HI := Lib.hid hi
      clear hb hz hr hdd hv hi
      have ow := HB.out.size
      rcases Nat.lt_or_ge k n with hlt | hge
      · obtain ⟨x, hx⟩ : ∃ x, L[k]? = some x := ⟨L[k]'(by rw [HL.out]; exact hlt), List.getElem?_eq_getElem _⟩
        obtain ⟨z, q, hz1, hq1, hq0, hqd, -, hxz0⟩ := HINV.out k x hx
        have HXZ := Lib.hid (hxz0 (Nat.le_refl _))
        obtain ⟨sq, Aq, nq, cq, y0, y1, iq⟩ := HD.out.cells hq1
        obtain ⟨sz, Az, nz, cz, u0, u1, iz⟩ := HR.out.cells hz1
        have e4 : (if k < k then n * 4 + 5 else 4) = 4 := if_neg (by omega)
        rw [e4] at iz
        have HQ := Lib.hid iq
        have HY := Lib.hid iz
        have HU := Lib.hid (And.intro u0 u1)
        have HX := Lib.hid hx
        have HQ1 := Lib.hid hq1
        have HQD := Lib.hid hqd
        clear hxz0 iq iz u0 u1 hx hz1 hq1 hqd e4
        have zk : (0 : Int) ≤ (k : Int) := by omega
        have zn : (k : Int) < (n : Int) := by omega
        by_cases hqe : q = d
        · obtain ⟨C, hC, hC0⟩ : ∃ C : Int, cmpI (q : Int) (d : Int) = C ∧ C = 0 := ⟨_, cmpI_eq (by rw [hqe]), rfl⟩
          subst hC0
          have HC := Lib.hid hC
          clear hC
          obtain ⟨g8, hg8⟩ : ∃ x, wo.heap.size = x := ⟨_, rfl⟩
          go_upto_region 12 with fail
          generalize hW : (World.alloc _ _) = Wa
          have hBa : Below wo.heap.size wo Wa := by rw [← hW]; exact below_alloc1 _ _
          have HXa : Hid (Bk Wa g8 24 #[.bool sq, .slice Aq nq cq]) := Lib.hid (by rw [← hW]; exact Bk.at_ hg8)
          have HBa := Lib.hid (below_to HB.out hBa HB.out.size); have HZa := Lib.hid (HZ.out.below hBa HZ.out.lt); have HRa := Lib.hid (HR.out.later hBa); have HDa := Lib.hid (HD.out.later hBa); have HVa := Lib.hid (HV.out.below hBa HV.out.lt)
          have HIa := Lib.hid (HI.out.later hBa)
          have HQa := Lib.hid (HQ.out.later hBa)
          clear hW y0 y1
          obtain ⟨x0, x1⟩ := HXa.out.duo
          obtain ⟨a0, a1, a2⟩ := HVa.out.trio
          go_wp2_with (go_at_call 22; go_loud (with_reducible refine (cmpH HQa.out HIa.out (Below.refl _ _) (Below.refl _ _) HC.out).mono ?_; rintro e wc2 ⟨hbc, rfl⟩; have HBc := Lib.hid (below_to HBa.out hbc HBa.out.size); have HZc := Lib.hid (HZa.out.below hbc HZa.out.lt); have HRc := Lib.hid (HRa.out.later hbc); have HDc := Lib.hid (HDa.out.later hbc); have HVc := Lib.hid (HVa.out.below hbc HVa.out.lt); have HIc := Lib.hid (HIa.out.later hbc); clear x0 x1 a0 a1 a2 hbc))
          go_roundw
          case rel => exact ⟨k + 1, N, by omega, by go_num, HBc.out, HZc.out, HRc.out.wide (fun j => by split <;> split <;> omega), HDc.out, HVc.out, HIc.out, Lib.hid (HINV.out.skip (by rw [HQ1.out, hqe]))⟩
          case measure => simp [intOf]; omega
        · obtain ⟨C, hC, hC0⟩ := cmpI_ne (show ((q : Nat) : Int) ≠ ((d : Nat) : Int) by omega)
          have HC := Lib.hid hC
          clear hC
          obtain ⟨g8, hg8⟩ : ∃ x, wo.heap.size = x := ⟨_, rfl⟩
          go_upto_region 12 with fail
          generalize hW : (World.alloc _ _) = Wa
          have hBa : Below wo.heap.size wo Wa := by rw [← hW]; exact below_alloc1 _ _
          have HXa : Hid (Bk Wa g8 24 #[.bool sq, .slice Aq nq cq]) := Lib.hid (by rw [← hW]; exact Bk.at_ hg8)
          have HBa := Lib.hid (below_to HB.out hBa HB.out.size); have HZa := Lib.hid (HZ.out.below hBa HZ.out.lt); have HRa := Lib.hid (HR.out.later hBa); have HDa := Lib.hid (HD.out.later hBa); have HVa := Lib.hid (HV.out.below hBa HV.out.lt)
          have HIa := Lib.hid (HI.out.later hBa)
          have HQa := Lib.hid (HQ.out.later hBa)
          have HYa := Lib.hid (HY.out.later hBa)
          have HUa := Lib.hid (And.intro ((hBa.cell (p := ⟨g, k * 2, none⟩) HR.out.lt).trans HU.out.1) ((hBa.cell (p := ⟨g, k * 2 + 1, none⟩) HR.out.lt).trans HU.out.2))
          clear hW y0 y1
          obtain ⟨x0, x1⟩ := HXa.out.duo
          obtain ⟨a0, a1, a2⟩ := HVa.out.trio
          go_upto_region 13 with (go_at_call 22; go_loud (with_reducible refine (cmpH HQa.out HIa.out (Below.refl _ _) (Below.refl _ _) HC.out).mono ?_; rintro e wc2 ⟨hbc, rfl⟩; have HBc := Lib.hid (below_to HBa.out hbc HBa.out.size); have HZc := Lib.hid (HZa.out.below hbc HZa.out.lt); have HRc := Lib.hid (HRa.out.later hbc); have HDc := Lib.hid (HDa.out.later hbc); have HVc := Lib.hid (HVa.out.below hbc HVa.out.lt); have HIc := Lib.hid (HIa.out.later hbc); have HQc := Lib.hid (HQa.out.later hbc); have HYc := Lib.hid (HYa.out.later hbc); have HXc := Lib.hid (HXa.out.below hbc HXa.out.lt); have HUc := Lib.hid (And.intro ((hbc.cell (p := ⟨g, k * 2, none⟩) HRa.out.lt).trans HUa.out.1) ((hbc.cell (p := ⟨g, k * 2 + 1, none⟩) HRa.out.lt).trans HUa.out.2)); clear x0 x1 a0 a1 a2 hbc))
          have hC13 : (fun w' : World => w'.cell? ⟨gv, 0, none⟩ = some (.slice (some ⟨g, 0, none⟩) n n) ∧ w'.cell? ⟨gv, 1, none⟩ = some (.bool s) ∧ w'.cell? ⟨gv, 2, none⟩ = some (.slice B m e) ∧ w'.cell? ⟨g8, 0, none⟩ = some (.bool sq) ∧ w'.cell? ⟨g8, 1, none⟩ = some (.slice Aq nq cq) ∧ w'.cell? ⟨g, k * 2, none⟩ = some (.bool sz) ∧ w'.cell? ⟨g, k * 2 + 1, none⟩ = some (.slice Az nz cz)) wc2.drew := ⟨HVc.out.trio.1, HVc.out.trio.2.1, HVc.out.trio.2.2, HXc.out.duo.1, HXc.out.duo.2, HUc.out.1, HUc.out.2⟩
          refine region_goes (n := 15) (fun w' : World => w'.cell? ⟨gv, 0, none⟩ = some (.slice (some ⟨g, 0, none⟩) n n) ∧ w'.cell? ⟨gv, 1, none⟩ = some (.bool s) ∧ w'.cell? ⟨gv, 2, none⟩ = some (.slice B m e) ∧ w'.cell? ⟨g8, 0, none⟩ = some (.bool sq) ∧ w'.cell? ⟨g8, 1, none⟩ = some (.slice Aq nq cq) ∧ w'.cell? ⟨g, k * 2, none⟩ = some (.bool sz) ∧ w'.cell? ⟨g, k * 2 + 1, none⟩ = some (.slice Az nz cz)) [14] (by kernel_rfl) rfl ?_
          refine gt7 0 [1, 13, 14] (.pointer (some ⟨gv, 0, none⟩)) hC13 ?_
          refine gt7 1 [13, 14] (.slice (some ⟨g, 0, none⟩) n n) hC13 ?_
          refine gt7 2 [13, 14] (.int .i64 (k : Int)) hC13 ?_
          refine gt7 3 [4, 6, 7, 12, 13, 14] (.pointer (some ⟨gv, 0, none⟩)) hC13 ?_
          refine gt7 4 [6, 7, 12, 13, 14] (.slice (some ⟨g, 0, none⟩) n n) hC13 ?_
          refine gt7 5 [6, 7, 12, 13, 14] (.int .i64 (k : Int)) hC13 ?_
          refine gt7 6 [7, 12, 13, 14] (.pointer (some ⟨g, k * 2, none⟩)) hC13 ?_
          refine gt7 7 [12, 13, 14] (.agg #[.bool sz, .slice Az nz cz]) hC13 ?_
          refine gt7 8 [9, 11, 12, 13, 14] (.pointer (some ⟨gv, 1, none⟩)) hC13 ?_
          refine gt7 9 [11, 12, 13, 14] (.agg #[.bool s, .slice B m e]) hC13 ?_
          refine gt7 10 [11, 12, 13, 14] (.agg #[.bool sq, .slice Aq nq cq]) hC13 ?_
          refine gc 11 ?_
          clear hC13
          go_wp2_with (go_at_call 152; go_loud (with_reducible refine (quotH HIc.out HQc.out (Below.drew (Below.refl _ _)) (Below.drew (Below.refl _ _)) (by omega) (by omega) hq0).mono ?_; rintro e wq ⟨hbq0, sg1, Ag, ng, cg, rfl, ig⟩; have hbq := below_drew hbq0; have HBq := Lib.hid (below_to HBc.out hbq HBc.out.size); have HZq := Lib.hid (HZc.out.below hbq HZc.out.lt); have HRq := Lib.hid (HRc.out.later hbq); have HDq := Lib.hid (HDc.out.later hbq); have HVq := Lib.hid (HVc.out.below hbq HVc.out.lt); have HIq := Lib.hid (HIc.out.later hbq); have HYq := Lib.hid (HYc.out.later hbq); have HGq := Lib.hid ig; have HXq := Lib.hid (HXc.out.below hbq HXc.out.lt); have HUq := Lib.hid (And.intro ((hbq.cell (p := ⟨g, k * 2, none⟩) HRc.out.lt).trans HUc.out.1) ((hbq.cell (p := ⟨g, k * 2 + 1, none⟩) HRc.out.lt).trans HUc.out.2)); clear hbq hbq0 ig))
          have hC13 : (fun w' : World => w'.cell? ⟨gv, 0, none⟩ = some (.slice (some ⟨g, 0, none⟩) n n) ∧ w'.cell? ⟨gv, 1, none⟩ = some (.bool s) ∧ w'.cell? ⟨gv, 2, none⟩ = some (.slice B m e) ∧ w'.cell? ⟨g8, 0, none⟩ = some (.bool sq) ∧ w'.cell? ⟨g8, 1, none⟩ = some (.slice Aq nq cq) ∧ w'.cell? ⟨g, k * 2, none⟩ = some (.bool sz) ∧ w'.cell? ⟨g, k * 2 + 1, none⟩ = some (.slice Az nz cz)) wq := ⟨HVq.out.trio.1, HVq.out.trio.2.1, HVq.out.trio.2.2, HXq.out.duo.1, HXq.out.duo.2, HUq.out.1, HUq.out.2⟩
          refine behind_ok ⟨hC13, ?_⟩
          clear hC13
          refine gc 12 ?_
          go_wp2_with (go_at_call 18; go_loud (with_reducible refine (prodH HYq.out HGq.out (Below.refl _ _) (Below.refl _ _) (by omega) (by omega)).mono ?_; rintro e wp ⟨hbp, sp, Ap, np, cp, rfl, ip⟩; have HBp := Lib.hid (below_to HBq.out hbp HBq.out.size); have HZp := Lib.hid (HZq.out.below hbp HZq.out.lt); have HRp := Lib.hid (HRq.out.later hbp); have HDp := Lib.hid (HDq.out.later hbp); have HVp := Lib.hid (HVq.out.below hbp HVq.out.lt); have HIp := Lib.hid (HIq.out.later hbp); have HPp := Lib.hid ip; have HXp := Lib.hid (HXq.out.below hbp HXq.out.lt); have HUp := Lib.hid (And.intro ((hbp.cell (p := ⟨g, k * 2, none⟩) HRq.out.lt).trans HUq.out.1) ((hbp.cell (p := ⟨g, k * 2 + 1, none⟩) HRq.out.lt).trans HUq.out.2)); clear hbp ip))
          have hC13 : (fun w' : World => w'.cell? ⟨gv, 0, none⟩ = some (.slice (some ⟨g, 0, none⟩) n n) ∧ w'.cell? ⟨gv, 1, none⟩ = some (.bool s) ∧ w'.cell? ⟨gv, 2, none⟩ = some (.slice B m e) ∧ w'.cell? ⟨g8, 0, none⟩ = some (.bool sq) ∧ w'.cell? ⟨g8, 1, none⟩ = some (.slice Aq nq cq) ∧ w'.cell? ⟨g, k * 2, none⟩ = some (.bool sz) ∧ w'.cell? ⟨g, k * 2 + 1, none⟩ = some (.slice Az nz cz)) wp := ⟨HVp.out.trio.1, HVp.out.trio.2.1, HVp.out.trio.2.2, HXp.out.duo.1, HXp.out.duo.2, HUp.out.1, HUp.out.2⟩
          refine behind_ok ⟨hC13, ?_⟩
          refine gt7 13 [14] (.pointer (some ⟨g, k * 2, none⟩)) hC13 ?_
          clear hC13
          refine goes_last (i := 14) rfl (by kernel_rfl) (by kernel_rfl) ?_
          obtain ⟨u0, u1, q0, q1, f0, f1⟩ := HRp.out.old hlt
          go_wp2_with fail
          obtain ⟨V1, hV1, b1, r1, r2, r3, r4, -, -⟩ := HRp.out.put HBp.out (show w.heap.size ≤ g by omega) hlt (K' := (fun j => if j < (k + 1) then n * 4 + 5 else 4)) (show IntH wp sp Ap np cp _ (if k < k + 1 then n * 4 + 5 else 4) false by rw [if_pos (Nat.lt_succ_self k)]; exact (HPp.out.widn (by omega)).soft) (fun j hj => by split <;> split <;> omega)
          rw [← hV1]
          clear hV1 q0 q1 f0 f1
          have HB1 := Lib.hid b1
          have HR1 := Lib.hid r1
          have HD1 := Lib.hid (r2 _ _ _ _ (by omega) HDp.out)
          have HV1 := Lib.hid (r3 _ _ _ (Ne.symm hne) HVp.out)
          have HZ1 := Lib.hid (r3 _ _ _ (by omega) HZp.out)
          have HI1 := Lib.hid (r4 _ _ _ _ _ _ _ HIp.out)
          clear b1 r1 r2 r3 r4
          refine behind_ok ?_
          refine goes_done (by kernel_rfl) ?_
          go_wp2
          go_roundw
          case rel => exact ⟨k + 1, N.set k (z * ((d / q : Nat) : Int)), by omega, by go_num, HB1.out, HZ1.out, HR1.out, HD1.out, HV1.out, HI1.out, Lib.hid (HINV.out.step HR.out.len hlt HX.out (over_q HXZ.out HQD.out))⟩
          case measure => simp [intOf]; omega
      · obtain rfl : n = k := by omega
        obtain ⟨a0, a1, a2⟩ := HV.out.trio
        obtain ⟨b0, b1, b2⟩ := HZ.out.trio
        have f0 := HZ.out.frozen 0
        have f1 := HZ.out.frozen 1
        have f2 := HZ.out.frozen 2
        go_wp2
        generalize hX : (World.setCell _ _ _) = X
        have hc := chg_trio wo w.heap.size (.slice (some ⟨g, 0, none⟩) n n) (.bool s) (.slice B m e)
        have hz3 := HZ.out.trio_set (.slice (some ⟨g, 0, none⟩) n n) (.bool s) (.slice B m e)
        have hr3 := HR.out.chg (show g ≠ w.heap.size by omega) HZ.out nou_vec hc
        have hi3 := HI.out.chg HZ.out nou_vec hc
        have hb3 : Below w.heap.size w (((wo.setCell ⟨w.heap.size, 0, none⟩ (.slice (some ⟨g, 0, none⟩) n n)).setCell ⟨w.heap.size, 1, none⟩ (.bool s)).setCell ⟨w.heap.size, 2, none⟩ (.slice B m e)) := ((HB.out.setCell (Nat.le_refl _) _).setCell (Nat.le_refl _) _).setCell (Nat.le_refl _) _
        rw [hX] at hz3 hr3 hi3 hb3
        clear hX hc a0 a1 a2 b0 b1 b2 f0 f1 f2
        obtain ⟨u0, u1, u2⟩ := hz3.trio
        have HRES := Lib.hid (And.intro hb3 (And.intro hr3 hi3))
        clear hz3 hr3 hi3 hb3
        refine bodyPost_ret (v := .agg #[.slice (some ⟨g, 0, none⟩) n n, .bool s, .slice B m e]) (by simp [results, Tryz.results137, go_sem, u0, u1, u2]) rfl ?_
        exact ⟨HRES.out.1, _, _, _, _, _, _, N, _, rfl, HRES.out.2.1.its (by omega) (fun j hj => by simp [hj]), HRES.out.2.2, HINV.out.done HL.out HR.out.len hd0⟩
end Go.Proofs.YthlfhfkfjefidaaGreat
/- Matrices in memory: the number of columns and the errors, of the program and of the reference. -/
namespace Go.Proofs.YthlfhfkfjefidaaGreat
open Go Go.RowKit
structure SL where
 B : Option Addr
 m : Nat
 e : Nat
structure Mt (w : World) (A : Option Addr) (n c : Nat) (S : List SL) : Prop where
 len : S.length = n
 cap : n ≤ c
 max : c ≤ 9223372036854775807
 at_ : ∀ (k : Nat) (s : SL), S[k]? = some s → ∃ b o, A = some ⟨b, o, none⟩ ∧ b < w.heap.size ∧ w.cell? ⟨b, o + k, none⟩ = some (.slice s.B s.m s.e)
theorem Mt.later {w w' : World} {A : Option Addr} {n c : Nat} {S : List SL} (h : Mt w A n c S) (hb : Below w.heap.size w w') : Mt w' A n c S :=
 ⟨h.len, h.cap, h.max, fun k s hk => by
   obtain ⟨b, o, e, hlt, hc⟩ := h.at_ k s hk
   exact ⟨b, o, e, Nat.lt_of_lt_of_le hlt hb.size, (hb.cell (p := ⟨b, o + k, none⟩) hlt).trans hc⟩⟩
def lens (S : List SL) : List Nat := S.map SL.m
theorem wid_of {S : List SL} {s : SL} (h : S[0]? = some s) : (lens S).headD 0 = s.m := by
 cases S with
 | nil => simp at h
 | cons a l => simp at h; subst h; rfl
set_option maxRecDepth 100000 in
set_option maxHeartbeats 1600000 in
theorem width_any {w : World} {A : Option Addr} {n c : Nat} {S : List SL} (h : Mt w A n c S) :
 Calls Tryz.prog 112 #[.slice A n c] w fun e w' => w = w' ∧ e = .returned (.int .i64 (((lens S).headD 0 : Nat) : Int)) := by
 have hcap := h.cap
 have hmax := h.max
 have hlen := h.len
 rcases Nat.eq_zero_or_pos n with h0 | h0
 · subst h0
   obtain rfl : S = [] := List.eq_nil_of_length_eq_zero hlen
   go_enter Tryz.func112, Tryz.ntmps112
   go_wp2
   go_ret
   exact ⟨rfl, rfl⟩
 · obtain ⟨s, hs⟩ : ∃ s, S[0]? = some s := ⟨S[0]'(by omega), List.getElem?_eq_getElem _⟩
   obtain ⟨b, o, rfl, hbl, hc⟩ := h.at_ 0 s hs
   have HW := Lib.hid (wid_of hs)
   have r0 : ¬ ((n : Int) = 0) := by omega
   have zn : (0 : Int) < (n : Int) := by omega
   rw [Nat.add_zero] at hc
   clear hs h
   go_enter Tryz.func112, Tryz.ntmps112
   go_wp2
   go_ret
   exact ⟨rfl, by rw [HW.out]; rfl⟩
set_option maxRecDepth 100000 in
set_option maxHeartbeats 1600000 in
theorem columnsM_any {w : World} {A : Option Addr} {n c : Nat} {S : List SL} (h : Mt w A n c S) :
 Calls Tryz.prog 85 #[.slice A n c] w fun e w' => w = w' ∧ e = .returned (.int .i64 (((lens S).headD 0 : Nat) : Int)) := by
 have hcap := h.cap
 have hmax := h.max
 have hlen := h.len
 rcases Nat.eq_zero_or_pos n with h0 | h0
 · subst h0
   obtain rfl : S = [] := List.eq_nil_of_length_eq_zero hlen
   go_enter Tryz.func85, Tryz.ntmps85
   go_wp2
   go_ret
   exact ⟨rfl, rfl⟩
 · obtain ⟨s, hs⟩ : ∃ s, S[0]? = some s := ⟨S[0]'(by omega), List.getElem?_eq_getElem _⟩
   obtain ⟨b, o, rfl, hbl, hc⟩ := h.at_ 0 s hs
   have HW := Lib.hid (wid_of hs)
   have r0 : ¬ ((n : Int) = 0) := by omega
   have zn : (0 : Int) < (n : Int) := by omega
   rw [Nat.add_zero] at hc
   clear hs h
   go_enter Tryz.func85, Tryz.ntmps85
   go_wp2
   go_ret
   exact ⟨rfl, by rw [HW.out]; rfl⟩
theorem mat_bad {S : List SL} {k : Nat} {s : SL} (h : S[k]? = some s) (hn : s.m ≠ (lens S).headD 0) : matS (lens S) = 11 := by
 unfold matS
 rw [if_pos]
 rw [List.any_eq_true]
 exact ⟨s.m, List.mem_of_getElem? (by unfold lens; rw [List.getElem?_map, h]; rfl), by simpa using hn⟩
theorem mat_ok {S : List SL} (h : ∀ (k : Nat) (s : SL), S[k]? = some s → s.m = (lens S).headD 0) : matS (lens S) = if 60 < S.length ∨ 60 < (lens S).headD 0 then 8 else 0 := by
 unfold matS
 rw [if_neg, show (lens S).length = S.length by unfold lens; rw [List.length_map]]
 rw [List.any_eq_true]
 rintro ⟨x, hx, hn⟩
 unfold lens at hx
 obtain ⟨s, hs, rfl⟩ := List.mem_map.1 hx
 obtain ⟨k, hk⟩ := List.getElem?_of_mem hs
 have := h k s hk
 simp at hn
 exact hn (by simpa using this)
set_option maxRecDepth 100000 in
set_option maxHeartbeats 1600000 in
theorem matrixError_any {w : World} {A : Option Addr} {n c : Nat} {S : List SL} (h : Mt w A n c S) :
 Calls Tryz.prog 111 #[.slice A n c] w fun e w' => w = w' ∧ e = .returned (.int .i64 (matS (lens S))) := by
 have hcap := h.cap
 have hmax := h.max
 have HL := Lib.hid h.len
 have H := Lib.hid h
 clear h
 go_enter Tryz.func111, Tryz.ntmps111
 go_wp2
 go_loop [4, 7] (fun _ v7 => ∃ (k : Nat), k ≤ n ∧ v7 = .int .i64 (k : Int) ∧ Hid (∀ (j : Nat) (s : SL), j < k → S[j]? = some s → s.m = (lens S).headD 0)) (fun _ v7 => n - (intOf v7).toNat)
 case atStart => exact ⟨0, Nat.zero_le _, rfl, Lib.hid fun j s hj => absurd hj (Nat.not_lt_zero _)⟩
 case round =>
  obtain ⟨k, hk, rfl, HT⟩ := hrel
  rcases Nat.lt_or_ge k n with hlt | hge
  · obtain ⟨s, hs⟩ : ∃ s, S[k]? = some s := ⟨S[k]'(by rw [HL.out]; exact hlt), List.getElem?_eq_getElem _⟩
    obtain ⟨b, o, rfl, hbl, hc⟩ := H.out.at_ k s hs
    have zk : (0 : Int) ≤ (k : Int) := by omega
    have zn : (k : Int) < (n : Int) := by omega
    by_cases q1 : s.m = (lens S).headD 0
    · have HN : Hid (∀ (j : Nat) (s : SL), j < k + 1 → S[j]? = some s → s.m = (lens S).headD 0) := Lib.hid fun j s' hj hs' => by
       rcases Nat.lt_or_ge j k with h1 | h1
       · exact HT.out j s' h1 hs'
       · obtain rfl : j = k := by omega
         rw [hs] at hs'
         obtain rfl := Option.some.inj hs'
         exact q1
      clear hs HT
      go_wp2_with (go_at_call 112; go_loud (refine (width_any H.out).mono ?_; rintro e w1 ⟨rfl, rfl⟩; rw [← q1]))
      go_round
      case rel => exact ⟨k + 1, by omega, by go_num, HN⟩
      case measure => simp [intOf]; omega
    · have HN := Lib.hid (mat_bad hs q1)
      obtain ⟨W, hW⟩ : ∃ W : Nat, (lens S).headD 0 = W := ⟨_, rfl⟩
      rw [hW] at q1
      have r1 : ¬ ((s.m : Int) = (W : Int)) := by omega
      clear hs HT
      go_wp2_with (go_at_call 112; go_loud (refine (width_any H.out).mono ?_; rintro e w1 ⟨rfl, rfl⟩; rw [hW]))
      go_ret
      exact ⟨rfl, by rw [HN.out]; rfl⟩
  · obtain rfl : k = n := by omega
    have hall : matS (lens S) = if 60 < k ∨ 60 < (lens S).headD 0 then 8 else 0 := by
     rw [mat_ok (fun j s hs => HT.out j s (by rw [← HL.out]; exact (List.getElem?_eq_some_iff.1 hs).1) hs), HL.out]
    clear HT
    by_cases q1 : 60 < k
    · have r1 : (60 : Int) < (k : Int) := by omega
      rw [if_pos (.inl q1)] at hall
      have HN := Lib.hid hall
      clear hall
      go_wp2
      go_ret
      exact ⟨rfl, by rw [HN.out]; rfl⟩
    · have r1 : ¬ (60 : Int) < (k : Int) := by omega
      by_cases q2 : 60 < (lens S).headD 0
      · rw [if_pos (.inr q2)] at hall
        have HN := Lib.hid hall
        clear hall
        obtain ⟨W, hW⟩ : ∃ W : Nat, (lens S).headD 0 = W := ⟨_, rfl⟩
        rw [hW] at q2
        have r2 : (60 : Int) < (W : Int) := by omega
        go_wp2_with (go_at_call 112; go_loud (refine (width_any H.out).mono ?_; rintro e w1 ⟨rfl, rfl⟩; rw [hW]))
        go_ret
        exact ⟨rfl, by rw [HN.out]; rfl⟩
      · rw [if_neg (by rintro (h | h) <;> contradiction)] at hall
        have HN := Lib.hid hall
        clear hall
        obtain ⟨W, hW⟩ : ∃ W : Nat, (lens S).headD 0 = W := ⟨_, rfl⟩
        rw [hW] at q2
        have r2 : ¬ (60 : Int) < (W : Int) := by omega
        go_wp2_with (go_at_call 112; go_loud (refine (width_any H.out).mono ?_; rintro e w1 ⟨rfl, rfl⟩; rw [hW]))
        go_ret
        exact ⟨rfl, by rw [HN.out]; rfl⟩
set_option maxRecDepth 100000 in
set_option maxHeartbeats 1600000 in
theorem checkMatrix_any {w : World} {A : Option Addr} {n c : Nat} {S : List SL} (h : Mt w A n c S) :
 Calls Tryz.prog 84 #[.slice A n c] w fun e w' => Below w.heap.size w w' ∧ e = .returned (.int .i64 (matS (lens S))) := by
 have hcap := h.cap
 have hmax := h.max
 have HL := Lib.hid h.len
 have H := Lib.hid h
 clear h
 go_enter Tryz.func84, Tryz.ntmps84
 go_wp2
 go_loopw [3] (fun v3 wr => ∃ (k : Nat), k ≤ n ∧ v3 = .int .i64 (k : Int) ∧ Below w.heap.size w wr ∧ Hid (∀ (j : Nat) (s : SL), j < k → S[j]? = some s → s.m = (lens S).headD 0)) (fun v3 _ => n - (intOf v3).toNat)
 case atStart => exact ⟨0, Nat.zero_le _, rfl, Below.refl _ _, Lib.hid fun j s hj => absurd hj (Nat.not_lt_zero _)⟩
 case round =>
  obtain ⟨k, hk, rfl, hb, HT⟩ := hrel
  have HB := Lib.hid hb
  have H1 := Lib.hid (H.out.later hb)
  rcases Nat.lt_or_ge k n with hlt | hge
  · obtain ⟨s, hs⟩ : ∃ s, S[k]? = some s := ⟨S[k]'(by rw [HL.out]; exact hlt), List.getElem?_eq_getElem _⟩
    obtain ⟨s0, hs0⟩ : ∃ s, S[0]? = some s := ⟨S[0]'(by rw [HL.out]; omega), List.getElem?_eq_getElem _⟩
    obtain ⟨b, o, rfl, hbl, hc⟩ := H1.out.at_ k s hs
    obtain ⟨b', o', e', -, hc0⟩ := H1.out.at_ 0 s0 hs0
    simp only [Option.some.injEq, Addr.mk.injEq, and_true] at e'
    obtain ⟨rfl, rfl⟩ := e'
    rw [Nat.add_zero] at hc0
    have zk : (0 : Int) ≤ (k : Int) := by omega
    have zn : (k : Int) < (n : Int) := by omega
    have z0 : (0 : Int) < (n : Int) := by omega
    have hw0 := wid_of hs0
    by_cases q1 : s.m = s0.m
    · have HN : Hid (∀ (j : Nat) (s : SL), j < k + 1 → S[j]? = some s → s.m = (lens S).headD 0) := Lib.hid fun j s' hj hs' => by
       rcases Nat.lt_or_ge j k with h1 | h1
       · exact HT.out j s' h1 hs'
       · obtain rfl : j = k := by omega
         rw [hs] at hs'
         obtain rfl := Option.some.inj hs'
         rw [q1, hw0]
      clear hs HT hw0 hs0
      go_wp2
      go_quiet (fail)
      go_wp2
      go_roundw
      case rel => exact ⟨k + 1, by omega, by go_num, by have hb := HB.out; exact bl, HN⟩
      case measure => simp [intOf]; omega
    · have HN := Lib.hid (mat_bad hs (by rw [hw0]; exact q1))
      have r1 : ¬ ((s.m : Int) = (s0.m : Int)) := by omega
      clear hs HT hw0 hs0
      go_wp2
      go_quiet (fail)
      go_wp2
      go_ret
      exact ⟨by have hb := HB.out; exact bl, by rw [HN.out]; rfl⟩
  · obtain rfl : k = n := by omega
    replace H := H1
    have hall : matS (lens S) = if 60 < k ∨ 60 < (lens S).headD 0 then 8 else 0 := by
     rw [mat_ok (fun j s hs => HT.out j s (by rw [← HL.out]; exact (List.getElem?_eq_some_iff.1 hs).1) hs), HL.out]
    clear HT
    by_cases q1 : 60 < k
    · have r1 : (60 : Int) < (k : Int) := by omega
      rw [if_pos (.inl q1)] at hall
      have HN := Lib.hid hall
      clear hall
      go_wp2
      go_ret
      exact ⟨by have hb := HB.out; exact bl, by rw [HN.out]; rfl⟩
    · have r1 : ¬ (60 : Int) < (k : Int) := by omega
      by_cases q2 : 60 < (lens S).headD 0
      · rw [if_pos (.inr q2)] at hall
        have HN := Lib.hid hall
        clear hall
        obtain ⟨W, hW⟩ : ∃ W : Nat, (lens S).headD 0 = W := ⟨_, rfl⟩
        rw [hW] at q2
        have r2 : (60 : Int) < (W : Int) := by omega
        go_wp2_with (go_at_call 85; go_loud (refine (columnsM_any H.out).mono ?_; rintro e w1 ⟨rfl, rfl⟩; rw [hW]))
        go_ret
        exact ⟨by have hb := HB.out; exact bl, by rw [HN.out]; rfl⟩
      · rw [if_neg (by rintro (h | h) <;> contradiction)] at hall
        have HN := Lib.hid hall
        clear hall
        obtain ⟨W, hW⟩ : ∃ W : Nat, (lens S).headD 0 = W := ⟨_, rfl⟩
        rw [hW] at q2
        have r2 : ¬ (60 : Int) < (W : Int) := by omega
        go_wp2_with (go_at_call 85; go_loud (refine (columnsM_any H.out).mono ?_; rintro e w1 ⟨rfl, rfl⟩; rw [hW]))
        go_ret
        exact ⟨by have hb := HB.out; exact bl, by rw [HN.out]; rfl⟩
end Go.Proofs.YthlfhfkfjefidaaGreat
/- The error of a program, of the program and of the reference. -/
namespace Go.Proofs.YthlfhfkfjefidaaGreat
open Go Go.RowKit
theorem pro_mat {l : List Nat} {b c : Nat} (h : matS l ≠ 0) : proS l b c = matS l := by unfold proS; rw [if_pos h]
theorem pro_len {l : List Nat} {b c : Nat} (h : matS l = 0) (h1 : b ≠ l.length) : proS l b c = 11 := by unfold proS; rw [if_neg (by omega), if_pos (.inl h1)]
theorem pro_wid {l : List Nat} {b c : Nat} (h : matS l = 0) (h1 : 0 < l.length) (h2 : c ≠ l.headD 0) : proS l b c = 11 := by unfold proS; rw [if_neg (by omega), if_pos (.inr ⟨h1, h2⟩)]
theorem pro_end {l : List Nat} {b c : Nat} (h : matS l = 0) (h1 : b = l.length) (h2 : l.length = 0 ∨ c = l.headD 0) : proS l b c = if 60 < c then 8 else 0 := by
 unfold proS
 rw [if_neg (by omega), if_neg]
 rintro (h3 | ⟨h3, h4⟩)
 · exact h3 h1
 · rcases h2 with h2 | h2
   · omega
   · exact h4 h2
set_option maxRecDepth 100000 in
set_option maxHeartbeats 4000000 in
theorem programError_any {w : World} {A B C : Option Addr} {n c m d k e : Nat} {S : List SL} (h : Mt w A n c S) :
 Calls Tryz.prog 79 #[.agg #[.slice A n c, .slice B m d, .slice C k e]] w fun e' w' => Below w.heap.size w w' ∧ e' = .returned (.int .i64 (proS (lens S) m k)) := by
 have HL := Lib.hid (show (lens S).length = n by unfold lens; rw [List.length_map]; exact h.len)
 have H := Lib.hid h
 clear h
 obtain ⟨E, hE⟩ : ∃ E, matS (lens S) = E := ⟨_, rfl⟩
 by_cases q0 : E = 0
 · subst q0
   go_enter Tryz.func79, Tryz.ntmps79
   go_upto_region 1 with fail
   generalize hW : (World.alloc _ _) = W
   have hb : Below w.heap.size w W := by rw [← hW]; exact below_alloc1 _ _
   have hk : Bk W w.heap.size 60 #[.slice A n c, .slice B m d, .slice C k e] := by rw [← hW]; exact Bk.alloc_ _ _ _
   clear hW
   obtain ⟨x0, x1, x2⟩ := hk.trio
   have HM := Lib.hid (H.out.later hb)
   have HX := Lib.hid hk
   have HB0 := Lib.hid hb
   clear hk hb
   go_upto_region 2 with (go_at_call 111; go_loud (refine (matrixError_any HM.out).mono ?_; rintro e1 w1 ⟨rfl, rfl⟩; rw [hE]))
   have HM1 := HM; have HX1 := HX; have HB := HB0
   clear x0 x1 x2
   obtain ⟨x0, x1, x2⟩ := HX1.out.trio
   go_upto_region 4 with fail
   have hC : (fun w' : World => w'.cell? ⟨w.heap.size, 0, none⟩ = some (.slice A n c) ∧ w'.cell? ⟨w.heap.size, 1, none⟩ = some (.slice B m d) ∧ w'.cell? ⟨w.heap.size, 2, none⟩ = some (.slice C k e)) (World.drew W) := ⟨x0, x1, x2⟩
   refine region_goes (n := 22) (fun w' : World => w'.cell? ⟨w.heap.size, 0, none⟩ = some (.slice A n c) ∧ w'.cell? ⟨w.heap.size, 1, none⟩ = some (.slice B m d) ∧ w'.cell? ⟨w.heap.size, 2, none⟩ = some (.slice C k e)) [] (by kernel_rfl) rfl ?_
   by_cases q1 : m = n
   · have r1 : (m : Int) = (n : Int) := by omega
     rcases Nat.eq_zero_or_pos n with q2 | q2
     · have r2 : ¬ (0 : Int) < (n : Int) := by omega
       have hp := pro_end (b := m) (c := k) hE (by rw [HL.out]; exact q1) (.inl (by rw [HL.out]; exact q2))
       clear q1
       refine gt3 0 [] (.pointer (some ⟨w.heap.size, 1, none⟩)) hC ?_
       refine gt3 1 [] (.slice B m d) hC ?_
       refine gt3 2 [] (.int .i64 (m : Int)) hC ?_
       refine gt3 3 [] (.pointer (some ⟨w.heap.size, 0, none⟩)) hC ?_
       refine gt3 4 [] (.slice A n c) hC ?_
       refine gt3 5 [] (.int .i64 (n : Int)) hC ?_
       refine gt3 6 [] (.bool false) hC ?_
       refine gt3 7 [] (.bool false) hC ?_
       refine gm3 8 (.pointer (some ⟨w.heap.size, 0, none⟩)) hC ?_
       refine gm3 9 (.slice A n c) hC ?_
       refine gm3 10 (.int .i64 (n : Int)) hC ?_
       refine gm3 11 (.bool false) hC ?_
       refine gm3 12 (.bool false) hC ?_
       refine gs 13 hC ?_
       refine gs 14 hC ?_
       refine gs 15 hC ?_
       refine gs 16 hC ?_
       refine gs 17 hC ?_
       refine gs 18 hC ?_
       refine gs 19 hC ?_
       refine gm3 20 (.bool false) hC ?_
       refine gt3 21 [] (.bool false) hC ?_
       refine goes_done (by kernel_rfl) ?_
       simp only [List.getElem_toArray, List.getElem_cons_succ, List.getElem_cons_zero, Act.put, List.setIfInBounds_toArray, List.set_cons_succ, List.set_cons_zero]
       by_cases q6 : 60 < k
       · have r6 : (60 : Int) < (k : Int) := by omega
         rw [if_pos q6] at hp
         have HP := Lib.hid hp
         clear hp
         go_wp2
         go_ret
         exact ⟨(below_to HB.out (Below.drew (Below.refl _ _)) HB.out.size), by rw [HP.out]; rfl⟩
       · have r6 : ¬ (60 : Int) < (k : Int) := by omega
         rw [if_neg q6] at hp
         have HP := Lib.hid hp
         clear hp
         go_wp2
         go_ret
         exact ⟨(below_to HB.out (Below.drew (Below.refl _ _)) HB.out.size), by rw [HP.out]; rfl⟩
     · obtain ⟨V, hV⟩ : ∃ V : Nat, (lens S).headD 0 = V := ⟨_, rfl⟩
       have r2 : (0 : Int) < (n : Int) := by omega
       have HW0 : Hid (Calls Tryz.prog 112 #[.slice A n c] (World.drew W) fun e w' => (World.drew W) = w' ∧ e = .returned (.int .i64 (V : Int))) := Lib.hid (by
        have h5 := width_any (HM1.out.later (Below.drew (Below.refl _ _)))
        rwa [hV] at h5)
       by_cases q3 : k = V
       · have r3 : (k : Int) = (V : Int) := by omega
         have hp := pro_end (b := m) (c := k) hE (by rw [HL.out]; exact q1) (.inr (by rw [hV]; exact q3))
         clear q1 q3
         refine gt3 0 [] (.pointer (some ⟨w.heap.size, 1, none⟩)) hC ?_
         refine gt3 1 [] (.slice B m d) hC ?_
         refine gt3 2 [] (.int .i64 (m : Int)) hC ?_
         refine gt3 3 [] (.pointer (some ⟨w.heap.size, 0, none⟩)) hC ?_
         refine gt3 4 [] (.slice A n c) hC ?_
         refine gt3 5 [] (.int .i64 (n : Int)) hC ?_
         refine gt3 6 [] (.bool false) hC ?_
         refine gt3 7 [] (.bool false) hC ?_
         refine gm3 8 (.pointer (some ⟨w.heap.size, 0, none⟩)) hC ?_
         refine gm3 9 (.slice A n c) hC ?_
         refine gm3 10 (.int .i64 (n : Int)) hC ?_
         refine gm3 11 (.bool true) hC ?_
         refine gm3 12 (.bool true) hC ?_
         refine gm3 13 (.pointer (some ⟨w.heap.size, 2, none⟩)) hC ?_
         refine gm3 14 (.slice C k e) hC ?_
         refine gm3 15 (.int .i64 (k : Int)) hC ?_
         refine gm3 16 (.pointer (some ⟨w.heap.size, 0, none⟩)) hC ?_
         refine gm3 17 (.slice A n c) hC ?_
         refine gc 18 ?_
         clear hC
         simp only [List.getElem_toArray, List.getElem_cons_succ, List.getElem_cons_zero, Act.put, List.setIfInBounds_toArray, List.set_cons_succ, List.set_cons_zero]
         go_wp2_with (go_at_call 112; go_loud (refine (HW0.out).mono ?_; rintro e1 w2 ⟨rfl, rfl⟩))
         have hC : (fun w' : World => w'.cell? ⟨w.heap.size, 0, none⟩ = some (.slice A n c) ∧ w'.cell? ⟨w.heap.size, 1, none⟩ = some (.slice B m d) ∧ w'.cell? ⟨w.heap.size, 2, none⟩ = some (.slice C k e)) (World.drew W) := ⟨x0, x1, x2⟩
         refine behind_ok ⟨hC, ?_⟩
         refine gm3 19 (.bool false) hC ?_
         refine gm3 20 (.bool false) hC ?_
         refine gt3 21 [] (.bool false) hC ?_
         refine goes_done (by kernel_rfl) ?_
         simp only [List.getElem_toArray, List.getElem_cons_succ, List.getElem_cons_zero, Act.put, List.setIfInBounds_toArray, List.set_cons_succ, List.set_cons_zero]
         by_cases q6 : 60 < k
         · have r6 : (60 : Int) < (k : Int) := by omega
           rw [if_pos q6] at hp
           have HP := Lib.hid hp
           clear hp
           go_wp2
           go_ret
           exact ⟨(below_to HB.out (Below.drew (Below.refl _ _)) HB.out.size), by rw [HP.out]; rfl⟩
         · have r6 : ¬ (60 : Int) < (k : Int) := by omega
           rw [if_neg q6] at hp
           have HP := Lib.hid hp
           clear hp
           go_wp2
           go_ret
           exact ⟨(below_to HB.out (Below.drew (Below.refl _ _)) HB.out.size), by rw [HP.out]; rfl⟩
       · have r3 : ¬ ((k : Int) = (V : Int)) := by omega
         have HP := Lib.hid (pro_wid (b := m) (c := k) hE (by rw [HL.out]; exact q2) (by rw [hV]; exact q3))
         clear q1 q3
         refine gt3 0 [] (.pointer (some ⟨w.heap.size, 1, none⟩)) hC ?_
         refine gt3 1 [] (.slice B m d) hC ?_
         refine gt3 2 [] (.int .i64 (m : Int)) hC ?_
         refine gt3 3 [] (.pointer (some ⟨w.heap.size, 0, none⟩)) hC ?_
         refine gt3 4 [] (.slice A n c) hC ?_
         refine gt3 5 [] (.int .i64 (n : Int)) hC ?_
         refine gt3 6 [] (.bool false) hC ?_
         refine gt3 7 [] (.bool false) hC ?_
         refine gm3 8 (.pointer (some ⟨w.heap.size, 0, none⟩)) hC ?_
         refine gm3 9 (.slice A n c) hC ?_
         refine gm3 10 (.int .i64 (n : Int)) hC ?_
         refine gm3 11 (.bool true) hC ?_
         refine gm3 12 (.bool true) hC ?_
         refine gm3 13 (.pointer (some ⟨w.heap.size, 2, none⟩)) hC ?_
         refine gm3 14 (.slice C k e) hC ?_
         refine gm3 15 (.int .i64 (k : Int)) hC ?_
         refine gm3 16 (.pointer (some ⟨w.heap.size, 0, none⟩)) hC ?_
         refine gm3 17 (.slice A n c) hC ?_
         refine gc 18 ?_
         clear hC
         simp only [List.getElem_toArray, List.getElem_cons_succ, List.getElem_cons_zero, Act.put, List.setIfInBounds_toArray, List.set_cons_succ, List.set_cons_zero]
         go_wp2_with (go_at_call 112; go_loud (refine (HW0.out).mono ?_; rintro e1 w2 ⟨rfl, rfl⟩))
         have hC : (fun w' : World => w'.cell? ⟨w.heap.size, 0, none⟩ = some (.slice A n c) ∧ w'.cell? ⟨w.heap.size, 1, none⟩ = some (.slice B m d) ∧ w'.cell? ⟨w.heap.size, 2, none⟩ = some (.slice C k e)) (World.drew W) := ⟨x0, x1, x2⟩
         refine behind_ok ⟨hC, ?_⟩
         refine gm3 19 (.bool true) hC ?_
         refine gm3 20 (.bool true) hC ?_
         refine gt3 21 [] (.bool true) hC ?_
         refine goes_done (by kernel_rfl) ?_
         simp only [List.getElem_toArray, List.getElem_cons_succ, List.getElem_cons_zero, Act.put, List.setIfInBounds_toArray, List.set_cons_succ, List.set_cons_zero]
         go_wp2
         go_ret
         exact ⟨(below_to HB.out (Below.drew (Below.refl _ _)) HB.out.size), by rw [HP.out]; rfl⟩
   · have r1 : ¬ ((m : Int) = (n : Int)) := by omega
     have HP := Lib.hid (pro_len (b := m) (c := k) hE (by rw [HL.out]; exact q1))
     clear q1
     refine gt3 0 [] (.pointer (some ⟨w.heap.size, 1, none⟩)) hC ?_
     refine gt3 1 [] (.slice B m d) hC ?_
     refine gt3 2 [] (.int .i64 (m : Int)) hC ?_
     refine gt3 3 [] (.pointer (some ⟨w.heap.size, 0, none⟩)) hC ?_
     refine gt3 4 [] (.slice A n c) hC ?_
     refine gt3 5 [] (.int .i64 (n : Int)) hC ?_
     refine gt3 6 [] (.bool true) hC ?_
     refine gt3 7 [] (.bool true) hC ?_
     refine gs 8 hC ?_
     refine gs 9 hC ?_
     refine gs 10 hC ?_
     refine gs 11 hC ?_
     refine gs 12 hC ?_
     refine gs 13 hC ?_
     refine gs 14 hC ?_
     refine gs 15 hC ?_
     refine gs 16 hC ?_
     refine gs 17 hC ?_
     refine gs 18 hC ?_
     refine gs 19 hC ?_
     refine gs 20 hC ?_
     refine gt3 21 [] (.bool true) hC ?_
     refine goes_done (by kernel_rfl) ?_
     simp only [List.getElem_toArray, List.getElem_cons_succ, List.getElem_cons_zero, Act.put, List.setIfInBounds_toArray, List.set_cons_succ, List.set_cons_zero]
     go_wp2
     go_ret
     exact ⟨(below_to HB.out (Below.drew (Below.refl _ _)) HB.out.size), by rw [HP.out]; rfl⟩
 · have HP := Lib.hid (pro_mat (b := m) (c := k) (by rw [hE]; exact q0))
   rw [hE] at HP
   go_enter Tryz.func79, Tryz.ntmps79
   go_upto_region 1 with fail
   generalize hW : (World.alloc _ _) = W
   have hb : Below w.heap.size w W := by rw [← hW]; exact below_alloc1 _ _
   have hk : Bk W w.heap.size 60 #[.slice A n c, .slice B m d, .slice C k e] := by rw [← hW]; exact Bk.alloc_ _ _ _
   clear hW
   obtain ⟨x0, x1, x2⟩ := hk.trio
   have HM := Lib.hid (H.out.later hb)
   have HX := Lib.hid hk
   have HB0 := Lib.hid hb
   clear hk hb
   go_upto_region 2 with (go_at_call 111; go_loud (refine (matrixError_any HM.out).mono ?_; rintro e1 w1 ⟨rfl, rfl⟩; rw [hE]))
   have HM1 := HM; have HX1 := HX; have HB := HB0
   clear x0 x1 x2
   go_wp2
   go_ret
   exact ⟨by have hb := HB.out; exact bl, by rw [HP.out]; rfl⟩
set_option maxRecDepth 100000 in
set_option maxHeartbeats 4000000 in
theorem checkProgram_any {w : World} {A B C : Option Addr} {n c m d k e : Nat} {S : List SL} (h : Mt w A n c S) :
 Calls Tryz.prog 46 #[.agg #[.slice A n c, .slice B m d, .slice C k e]] w fun e' w' => Below w.heap.size w w' ∧ e' = .returned (.int .i64 (proS (lens S) m k)) := by
 have HL := Lib.hid (show (lens S).length = n by unfold lens; rw [List.length_map]; exact h.len)
 have H := Lib.hid h
 clear h
 obtain ⟨E, hE⟩ : ∃ E, matS (lens S) = E := ⟨_, rfl⟩
 by_cases q0 : E = 0
 · subst q0
   go_enter Tryz.func46, Tryz.ntmps46
   go_upto_region 1 with fail
   generalize hW : (World.alloc _ _) = W
   have hb : Below w.heap.size w W := by rw [← hW]; exact below_alloc1 _ _
   have hk : Bk W w.heap.size 60 #[.slice A n c, .slice B m d, .slice C k e] := by rw [← hW]; exact Bk.alloc_ _ _ _
   clear hW
   obtain ⟨x0, x1, x2⟩ := hk.trio
   have HM := Lib.hid (H.out.later hb)
   have HX := Lib.hid hk
   have HB0 := Lib.hid hb
   clear hk hb
   go_upto_region 2 with (go_at_call 84; go_loud (refine (checkMatrix_any HM.out).mono ?_; rintro e1 w1 ⟨hb1, rfl⟩; rw [hE]))
   have HM1 := Lib.hid (HM.out.later hb1); have HX1 := Lib.hid (HX.out.below hb1 HX.out.lt); have HB := Lib.hid (below_to HB0.out hb1 HB0.out.size)
   clear x0 x1 x2
   obtain ⟨x0, x1, x2⟩ := HX1.out.trio
   go_upto_region 4 with fail
   have hC : (fun w' : World => w'.cell? ⟨w.heap.size, 0, none⟩ = some (.slice A n c) ∧ w'.cell? ⟨w.heap.size, 1, none⟩ = some (.slice B m d) ∧ w'.cell? ⟨w.heap.size, 2, none⟩ = some (.slice C k e)) (World.drew w1) := ⟨x0, x1, x2⟩
   refine region_goes (n := 22) (fun w' : World => w'.cell? ⟨w.heap.size, 0, none⟩ = some (.slice A n c) ∧ w'.cell? ⟨w.heap.size, 1, none⟩ = some (.slice B m d) ∧ w'.cell? ⟨w.heap.size, 2, none⟩ = some (.slice C k e)) [] (by kernel_rfl) rfl ?_
   by_cases q1 : m = n
   · have r1 : (m : Int) = (n : Int) := by omega
     rcases Nat.eq_zero_or_pos n with q2 | q2
     · have r2 : ¬ (0 : Int) < (n : Int) := by omega
       have hp := pro_end (b := m) (c := k) hE (by rw [HL.out]; exact q1) (.inl (by rw [HL.out]; exact q2))
       clear q1
       refine gt3 0 [] (.pointer (some ⟨w.heap.size, 1, none⟩)) hC ?_
       refine gt3 1 [] (.slice B m d) hC ?_
       refine gt3 2 [] (.int .i64 (m : Int)) hC ?_
       refine gt3 3 [] (.pointer (some ⟨w.heap.size, 0, none⟩)) hC ?_
       refine gt3 4 [] (.slice A n c) hC ?_
       refine gt3 5 [] (.int .i64 (n : Int)) hC ?_
       refine gt3 6 [] (.bool false) hC ?_
       refine gt3 7 [] (.bool false) hC ?_
       refine gm3 8 (.pointer (some ⟨w.heap.size, 0, none⟩)) hC ?_
       refine gm3 9 (.slice A n c) hC ?_
       refine gm3 10 (.int .i64 (n : Int)) hC ?_
       refine gm3 11 (.bool false) hC ?_
       refine gm3 12 (.bool false) hC ?_
       refine gs 13 hC ?_
       refine gs 14 hC ?_
       refine gs 15 hC ?_
       refine gs 16 hC ?_
       refine gs 17 hC ?_
       refine gs 18 hC ?_
       refine gs 19 hC ?_
       refine gm3 20 (.bool false) hC ?_
       refine gt3 21 [] (.bool false) hC ?_
       refine goes_done (by kernel_rfl) ?_
       simp only [List.getElem_toArray, List.getElem_cons_succ, List.getElem_cons_zero, Act.put, List.setIfInBounds_toArray, List.set_cons_succ, List.set_cons_zero]
       by_cases q6 : 60 < k
       · have r6 : (60 : Int) < (k : Int) := by omega
         rw [if_pos q6] at hp
         have HP := Lib.hid hp
         clear hp
         go_wp2
         go_ret
         exact ⟨(below_to HB.out (Below.drew (Below.refl _ _)) HB.out.size), by rw [HP.out]; rfl⟩
       · have r6 : ¬ (60 : Int) < (k : Int) := by omega
         rw [if_neg q6] at hp
         have HP := Lib.hid hp
         clear hp
         go_wp2
         go_ret
         exact ⟨(below_to HB.out (Below.drew (Below.refl _ _)) HB.out.size), by rw [HP.out]; rfl⟩
     · obtain ⟨V, hV⟩ : ∃ V : Nat, (lens S).headD 0 = V := ⟨_, rfl⟩
       have r2 : (0 : Int) < (n : Int) := by omega
       have HW0 : Hid (Calls Tryz.prog 85 #[.slice A n c] (World.drew w1) fun e w' => (World.drew w1) = w' ∧ e = .returned (.int .i64 (V : Int))) := Lib.hid (by
        have h5 := columnsM_any (HM1.out.later (Below.drew (Below.refl _ _)))
        rwa [hV] at h5)
       by_cases q3 : k = V
       · have r3 : (k : Int) = (V : Int) := by omega
         have hp := pro_end (b := m) (c := k) hE (by rw [HL.out]; exact q1) (.inr (by rw [hV]; exact q3))
         clear q1 q3
         refine gt3 0 [] (.pointer (some ⟨w.heap.size, 1, none⟩)) hC ?_
         refine gt3 1 [] (.slice B m d) hC ?_
         refine gt3 2 [] (.int .i64 (m : Int)) hC ?_
         refine gt3 3 [] (.pointer (some ⟨w.heap.size, 0, none⟩)) hC ?_
         refine gt3 4 [] (.slice A n c) hC ?_
         refine gt3 5 [] (.int .i64 (n : Int)) hC ?_
         refine gt3 6 [] (.bool false) hC ?_
         refine gt3 7 [] (.bool false) hC ?_
         refine gm3 8 (.pointer (some ⟨w.heap.size, 0, none⟩)) hC ?_
         refine gm3 9 (.slice A n c) hC ?_
         refine gm3 10 (.int .i64 (n : Int)) hC ?_
         refine gm3 11 (.bool true) hC ?_
         refine gm3 12 (.bool true) hC ?_
         refine gm3 13 (.pointer (some ⟨w.heap.size, 2, none⟩)) hC ?_
         refine gm3 14 (.slice C k e) hC ?_
         refine gm3 15 (.int .i64 (k : Int)) hC ?_
         refine gm3 16 (.pointer (some ⟨w.heap.size, 0, none⟩)) hC ?_
         refine gm3 17 (.slice A n c) hC ?_
         refine gc 18 ?_
         clear hC
         simp only [List.getElem_toArray, List.getElem_cons_succ, List.getElem_cons_zero, Act.put, List.setIfInBounds_toArray, List.set_cons_succ, List.set_cons_zero]
         go_wp2_with (go_at_call 85; go_loud (refine (HW0.out).mono ?_; rintro e1 w2 ⟨rfl, rfl⟩))
         have hC : (fun w' : World => w'.cell? ⟨w.heap.size, 0, none⟩ = some (.slice A n c) ∧ w'.cell? ⟨w.heap.size, 1, none⟩ = some (.slice B m d) ∧ w'.cell? ⟨w.heap.size, 2, none⟩ = some (.slice C k e)) (World.drew w1) := ⟨x0, x1, x2⟩
         refine behind_ok ⟨hC, ?_⟩
         refine gm3 19 (.bool false) hC ?_
         refine gm3 20 (.bool false) hC ?_
         refine gt3 21 [] (.bool false) hC ?_
         refine goes_done (by kernel_rfl) ?_
         simp only [List.getElem_toArray, List.getElem_cons_succ, List.getElem_cons_zero, Act.put, List.setIfInBounds_toArray, List.set_cons_succ, List.set_cons_zero]
         by_cases q6 : 60 < k
         · have r6 : (60 : Int) < (k : Int) := by omega
           rw [if_pos q6] at hp
           have HP := Lib.hid hp
           clear hp
           go_wp2
           go_ret
           exact ⟨(below_to HB.out (Below.drew (Below.refl _ _)) HB.out.size), by rw [HP.out]; rfl⟩
         · have r6 : ¬ (60 : Int) < (k : Int) := by omega
           rw [if_neg q6] at hp
           have HP := Lib.hid hp
           clear hp
           go_wp2
           go_ret
           exact ⟨(below_to HB.out (Below.drew (Below.refl _ _)) HB.out.size), by rw [HP.out]; rfl⟩
       · have r3 : ¬ ((k : Int) = (V : Int)) := by omega
         have HP := Lib.hid (pro_wid (b := m) (c := k) hE (by rw [HL.out]; exact q2) (by rw [hV]; exact q3))
         clear q1 q3
         refine gt3 0 [] (.pointer (some ⟨w.heap.size, 1, none⟩)) hC ?_
         refine gt3 1 [] (.slice B m d) hC ?_
         refine gt3 2 [] (.int .i64 (m : Int)) hC ?_
         refine gt3 3 [] (.pointer (some ⟨w.heap.size, 0, none⟩)) hC ?_
         refine gt3 4 [] (.slice A n c) hC ?_
         refine gt3 5 [] (.int .i64 (n : Int)) hC ?_
         refine gt3 6 [] (.bool false) hC ?_
         refine gt3 7 [] (.bool false) hC ?_
         refine gm3 8 (.pointer (some ⟨w.heap.size, 0, none⟩)) hC ?_
         refine gm3 9 (.slice A n c) hC ?_
         refine gm3 10 (.int .i64 (n : Int)) hC ?_
         refine gm3 11 (.bool true) hC ?_
         refine gm3 12 (.bool true) hC ?_
         refine gm3 13 (.pointer (some ⟨w.heap.size, 2, none⟩)) hC ?_
         refine gm3 14 (.slice C k e) hC ?_
         refine gm3 15 (.int .i64 (k : Int)) hC ?_
         refine gm3 16 (.pointer (some ⟨w.heap.size, 0, none⟩)) hC ?_
         refine gm3 17 (.slice A n c) hC ?_
         refine gc 18 ?_
         clear hC
         simp only [List.getElem_toArray, List.getElem_cons_succ, List.getElem_cons_zero, Act.put, List.setIfInBounds_toArray, List.set_cons_succ, List.set_cons_zero]
         go_wp2_with (go_at_call 85; go_loud (refine (HW0.out).mono ?_; rintro e1 w2 ⟨rfl, rfl⟩))
         have hC : (fun w' : World => w'.cell? ⟨w.heap.size, 0, none⟩ = some (.slice A n c) ∧ w'.cell? ⟨w.heap.size, 1, none⟩ = some (.slice B m d) ∧ w'.cell? ⟨w.heap.size, 2, none⟩ = some (.slice C k e)) (World.drew w1) := ⟨x0, x1, x2⟩
         refine behind_ok ⟨hC, ?_⟩
         refine gm3 19 (.bool true) hC ?_
         refine gm3 20 (.bool true) hC ?_
         refine gt3 21 [] (.bool true) hC ?_
         refine goes_done (by kernel_rfl) ?_
         simp only [List.getElem_toArray, List.getElem_cons_succ, List.getElem_cons_zero, Act.put, List.setIfInBounds_toArray, List.set_cons_succ, List.set_cons_zero]
         go_wp2
         go_ret
         exact ⟨(below_to HB.out (Below.drew (Below.refl _ _)) HB.out.size), by rw [HP.out]; rfl⟩
   · have r1 : ¬ ((m : Int) = (n : Int)) := by omega
     have HP := Lib.hid (pro_len (b := m) (c := k) hE (by rw [HL.out]; exact q1))
     clear q1
     refine gt3 0 [] (.pointer (some ⟨w.heap.size, 1, none⟩)) hC ?_
     refine gt3 1 [] (.slice B m d) hC ?_
     refine gt3 2 [] (.int .i64 (m : Int)) hC ?_
     refine gt3 3 [] (.pointer (some ⟨w.heap.size, 0, none⟩)) hC ?_
     refine gt3 4 [] (.slice A n c) hC ?_
     refine gt3 5 [] (.int .i64 (n : Int)) hC ?_
     refine gt3 6 [] (.bool true) hC ?_
     refine gt3 7 [] (.bool true) hC ?_
     refine gs 8 hC ?_
     refine gs 9 hC ?_
     refine gs 10 hC ?_
     refine gs 11 hC ?_
     refine gs 12 hC ?_
     refine gs 13 hC ?_
     refine gs 14 hC ?_
     refine gs 15 hC ?_
     refine gs 16 hC ?_
     refine gs 17 hC ?_
     refine gs 18 hC ?_
     refine gs 19 hC ?_
     refine gs 20 hC ?_
     refine gt3 21 [] (.bool true) hC ?_
     refine goes_done (by kernel_rfl) ?_
     simp only [List.getElem_toArray, List.getElem_cons_succ, List.getElem_cons_zero, Act.put, List.setIfInBounds_toArray, List.set_cons_succ, List.set_cons_zero]
     go_wp2
     go_ret
     exact ⟨(below_to HB.out (Below.drew (Below.refl _ _)) HB.out.size), by rw [HP.out]; rfl⟩
 · have HP := Lib.hid (pro_mat (b := m) (c := k) (by rw [hE]; exact q0))
   rw [hE] at HP
   go_enter Tryz.func46, Tryz.ntmps46
   go_upto_region 1 with fail
   generalize hW : (World.alloc _ _) = W
   have hb : Below w.heap.size w W := by rw [← hW]; exact below_alloc1 _ _
   have hk : Bk W w.heap.size 60 #[.slice A n c, .slice B m d, .slice C k e] := by rw [← hW]; exact Bk.alloc_ _ _ _
   clear hW
   obtain ⟨x0, x1, x2⟩ := hk.trio
   have HM := Lib.hid (H.out.later hb)
   have HX := Lib.hid hk
   have HB0 := Lib.hid hb
   clear hk hb
   go_upto_region 2 with (go_at_call 84; go_loud (refine (checkMatrix_any HM.out).mono ?_; rintro e1 w1 ⟨hb1, rfl⟩; rw [hE]))
   have HM1 := Lib.hid (HM.out.later hb1); have HX1 := Lib.hid (HX.out.below hb1 HX.out.lt); have HB := Lib.hid (below_to HB0.out hb1 HB0.out.size)
   clear x0 x1 x2
   go_wp2
   go_ret
   exact ⟨by have hb := HB.out; exact bl, by rw [HP.out]; rfl⟩
end Go.Proofs.YthlfhfkfjefidaaGreat
