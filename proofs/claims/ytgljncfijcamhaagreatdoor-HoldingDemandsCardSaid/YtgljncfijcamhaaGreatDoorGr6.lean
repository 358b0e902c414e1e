/- Rows of small structs of numbers in memory (pairs: ties; fours: the ground), and arguments that are such rows, opened. No program is named here. -/
import Derived.Test.YtgljncfijcamhaaGreatDoorAgg6
import Derived.Test.YtgljncfijcamhaaGreatDoorOpen6
import Derived.Deep.Slices
import Derived.Deep.Fields
namespace Go.Proofs.YtgljncfijcamhaaGreatDoor
open Go.Joins Go.ChangeShapes Go.WideShapes Go.RowKit Go.Deep

theorem add_at (b o j : Nat) : (⟨b, o, none⟩ : Addr).add j = ⟨b, o + j, none⟩ := by
  unfold Addr.add
  split
  · simp [*]
  · rfl
theorem list_of_fn {α : Type} (d : α) {n : Nat} {p : Nat → α → Prop} (h : ∀ i, i < n → ∃ x, p i x) : ∃ l : List α, l.length = n ∧ ∀ i x, l[i]? = some x → p i x := by
  classical
  refine ⟨(List.range n).map fun i => if hi : i < n then Classical.choose (h i hi) else d, by simp, fun i x hx => ?_⟩
  rw [List.getElem?_map] at hx
  by_cases hi : i < n
  · rw [List.getElem?_range hi] at hx
    simp only [Option.map_some, Option.some.injEq, dif_pos hi] at hx
    rw [← hx]
    exact Classical.choose_spec (h i hi)
  · rw [List.getElem?_eq_none (by simpa using hi)] at hx
    cases hx

def pcells : List (Int × Int) → List Value
  | [] => []
  | p :: l => .int .i64 p.1 :: .int .i64 p.2 :: pcells l
theorem pcells_length (l : List (Int × Int)) : (pcells l).length = l.length * 2 := by
  induction l with
  | nil => rfl
  | cons p l ih => simp only [pcells, List.length_cons, ih]; omega
theorem pcells_get (l : List (Int × Int)) (k : Nat) : (pcells l)[k * 2]? = (l[k]?).map (fun p => .int .i64 p.1) ∧ (pcells l)[k * 2 + 1]? = (l[k]?).map (fun p => .int .i64 p.2) := by
  induction l generalizing k with
  | nil => simp [pcells]
  | cons p l ih =>
    match k with
    | 0 => simp [pcells]
    | k + 1 =>
      have := ih k
      rw [show (k + 1) * 2 = k * 2 + 1 + 1 from by omega]
      simpa [pcells] using this
theorem pcells_append (l m : List (Int × Int)) : pcells (l ++ m) = pcells l ++ pcells m := by
  induction l with
  | nil => rfl
  | cons p l ih => simp [pcells, ih]
structure Pts (w : World) (B : Nat) (A : Option Addr) (n c : Nat) (l : List (Int × Int)) : Prop where
  sl : Sl w B 2 A n c (pcells l)
section
variable {w w' : World} {B B' n c : Nat} {A : Option Addr} {l : List (Int × Int)}
theorem Pts.len (h : Pts w B A n c l) : l.length = n := by have := h.sl.len; rw [pcells_length] at this; omega
theorem Pts.cap (h : Pts w B A n c l) : n ≤ c := h.sl.cap
theorem Pts.max (h : Pts w B A n c l) : c ≤ 9223372036854775807 := h.sl.max
theorem Pts.below (h : Pts w B A n c l) {D : Nat} (hb : Below D w w') (hD : B ≤ D) (hB : B ≤ B') : Pts w' B' A n c l := ⟨h.sl.below hb hD hB⟩
theorem Pts.at_ (h : Pts w B A n c l) {k : Nat} (hk : k < n) : ∃ b o x, A = some ⟨b, o, none⟩ ∧ b < B ∧ l[k]? = some x ∧ w.cell? ⟨b, o + k * 2, none⟩ = some (.int .i64 x.1) ∧ w.cell? ⟨b, o + k * 2 + 1, none⟩ = some (.int .i64 x.2) := by
  obtain ⟨b, o, e, hb, hc⟩ := h.sl.cells (by omega)
  have hl : k < l.length := by have := h.len; omega
  have hg := pcells_get l k
  rw [List.getElem?_eq_getElem hl] at hg
  exact ⟨b, o, l[k], e, hb, List.getElem?_eq_getElem hl, hc _ _ hg.1, hc _ _ hg.2⟩
end
section
variable {H : Type} {enc : TypeId × Value → H} {P : Program} {w : World}
theorem open_pcells {t e ti : TypeId} {f0 f1 : Field} {v : Value} {d : DataW H} {ps : List MemPlace} {r : Reach} {b0 : Nat} (ht : P.underlying t = some (.slice e)) (he : P.underlying e = some (.struct #[f0, f1])) (hone : oneCellFields P #[f0, f1] = true) (hC : P.cellsOf e = 2)
    (ht0 : f0.type = ti) (ht1 : f1.type = ti) (hti : P.underlying ti = some (.int .i64)) (hv : Value.okWide P w r b0 t v) (h : DataW.Trod enc P w 0 (fun _ => true) true t v d ps) :
    ∃ (A : Option Addr) (n c : Nat) (l : List (Int × Int)), v = .slice A n c ∧ Pts w w.heap.size A n c l ∧ (A = none → n = 0 ∧ c = 0) := by
  obtain ⟨A, n, c, rfl⟩ := okWide_slice ht hv
  obtain ⟨fuel, hf⟩ := h
  rcases open_slice ht hf with ⟨hcs, _⟩ | ⟨a, len, cap, m, n', D, Pl, hcs, _, hl, hm, hmm, _, hi⟩
  · have e : Value.slice A n c = .slice none 0 0 := by simpa [Value.cells] using hcs
    injection e with e1 e2 e3
    subst e1; subst e2; subst e3
    exact ⟨none, 0, 0, [], rfl, ⟨Sl.nil_ _ _ _⟩, fun _ => ⟨rfl, rfl⟩⟩
  · have e : Value.slice A n c = .slice (some a) len cap := by simpa [Value.cells] using hcs
    injection e with e1 e2 e3
    subst e1; subst e2; subst e3
    simp only [if_true] at hmm
    subst hmm
    have key : ∀ i, i < n → ∃ p : Int × Int, w.cell? (a.add (i * 2)) = some (.int .i64 p.1) ∧ w.cell? (a.add (i * 2 + 1)) = some (.int .i64 p.2) := by
      intro i hin
      obtain ⟨cs', hc, ht'⟩ := hi i (by omega)
      rw [hC] at hc
      obtain ⟨ys, n2, _, _, hlen, _, hg⟩ := DataW.trod_struct he ht'
      obtain ⟨_, hcl, hat⟩ := World.cells?_some hc
      obtain ⟨o0, k0⟩ := hone_of hone 0 f0 rfl
      obtain ⟨o1, k1⟩ := hone_of hone 1 f1 rfl
      match cs', hcl with
      | [u0, u1], _ =>
        have g0 := hg 0 f0 rfl
        have g1 := hg 1 f1 rfl
        rw [o0, k0, ht0] at g0
        rw [o1, k1, ht1] at g1
        match ys, hlen with
        | [y0, y1], _ =>
          obtain ⟨z0, e0, _, _⟩ := DataW.trod_int hti g0
          have e0' : u0 = .int .i64 z0 := by simpa using e0
          obtain ⟨z1, e1, _, _⟩ := DataW.trod_int hti g1
          have e1' : u1 = .int .i64 z1 := by simpa using e1
          refine ⟨(z0, z1), ?_, ?_⟩
          · have := hat 0 (by omega)
            rw [add_add] at this
            simpa [e0'] using this
          · have := hat 1 (by omega)
            rw [add_add] at this
            simpa [e1'] using this
    obtain ⟨l, hll, hlp⟩ := list_of_fn ((0, 0) : Int × Int) key
    refine ⟨some a, _, _, l, rfl, ⟨⟨by rw [pcells_length, hll], hl, by simpa [maxLen] using hm, fun hn => ?_⟩⟩, fun h => by cases h⟩
    have ha := (hlp 0 (l[0]'(by omega)) (List.getElem?_eq_getElem (by omega))).1
    rw [Nat.zero_mul, show a.add 0 = a from rfl] at ha
    have hs := spot_of_cell ha
    refine ⟨a.block, a.off, congrArg some hs, World.block_lt_of_cell? w _ ha, fun k u hu => ?_⟩
    have hk : k < (pcells l).length := (List.getElem?_eq_some_iff.1 hu).1
    rw [pcells_length] at hk
    have hg := pcells_get l (k / 2)
    have hq : l[k / 2]? = some (l[k / 2]'(by omega)) := List.getElem?_eq_getElem (by omega)
    obtain ⟨p0, p1⟩ := hlp _ _ hq
    rw [hq] at hg
    obtain ⟨q0, q1⟩ := hg
    have hcase : k = k / 2 * 2 ∨ k = k / 2 * 2 + 1 := by omega
    rcases hcase with ek | ek
    · rw [ek, q0] at hu
      rw [hs, add_at] at p0
      rw [ek, ← Option.some.inj hu]
      exact p0
    · rw [ek, q1] at hu
      rw [hs, add_at] at p1
      rw [ek, ← Option.some.inj hu]
      exact p1
end

/-- A step of the ground: from, to, height, bearing. -/
structure Gr where
  a : Int
  b : Int
  c : Int
  d : Int

def gcells : List (Gr) → List Value
  | [] => []
  | p :: l => .int .i64 p.a :: .int .i64 p.b :: .int .i64 p.c :: .int .i64 p.d :: gcells l
theorem gcells_length (l : List (Gr)) : (gcells l).length = l.length * 4 := by
  induction l with
  | nil => rfl
  | cons p l ih => simp only [gcells, List.length_cons, ih]; omega
theorem gcells_get (l : List (Gr)) (k : Nat) : (gcells l)[k * 4]? = (l[k]?).map (fun p => .int .i64 p.a) ∧ (gcells l)[k * 4 + 1]? = (l[k]?).map (fun p => .int .i64 p.b) ∧ (gcells l)[k * 4 + 2]? = (l[k]?).map (fun p => .int .i64 p.c) ∧ (gcells l)[k * 4 + 3]? = (l[k]?).map (fun p => .int .i64 p.d) := by
  induction l generalizing k with
  | nil => simp [gcells]
  | cons p l ih =>
    match k with
    | 0 => simp [gcells]
    | k + 1 =>
      have := ih k
      rw [show (k + 1) * 4 = k * 4 + 1 + 1 + 1 + 1 from by omega]
      simpa [gcells] using this
theorem gcells_append (l m : List (Gr)) : gcells (l ++ m) = gcells l ++ gcells m := by
  induction l with
  | nil => rfl
  | cons p l ih => simp [gcells, ih]
structure Grs (w : World) (B : Nat) (A : Option Addr) (n c : Nat) (l : List (Gr)) : Prop where
  sl : Sl w B 4 A n c (gcells l)
section
variable {w w' : World} {B B' n c : Nat} {A : Option Addr} {l : List (Gr)}
theorem Grs.len (h : Grs w B A n c l) : l.length = n := by have := h.sl.len; rw [gcells_length] at this; omega
theorem Grs.cap (h : Grs w B A n c l) : n ≤ c := h.sl.cap
theorem Grs.max (h : Grs w B A n c l) : c ≤ 9223372036854775807 := h.sl.max
theorem Grs.below (h : Grs w B A n c l) {D : Nat} (hb : Below D w w') (hD : B ≤ D) (hB : B ≤ B') : Grs w' B' A n c l := ⟨h.sl.below hb hD hB⟩
theorem Grs.at_ (h : Grs w B A n c l) {k : Nat} (hk : k < n) : ∃ b o x, A = some ⟨b, o, none⟩ ∧ b < B ∧ l[k]? = some x ∧ w.cell? ⟨b, o + k * 4, none⟩ = some (.int .i64 x.a) ∧ w.cell? ⟨b, o + k * 4 + 1, none⟩ = some (.int .i64 x.b) ∧ w.cell? ⟨b, o + k * 4 + 2, none⟩ = some (.int .i64 x.c) ∧ w.cell? ⟨b, o + k * 4 + 3, none⟩ = some (.int .i64 x.d) := by
  obtain ⟨b, o, e, hb, hc⟩ := h.sl.cells (by omega)
  have hl : k < l.length := by have := h.len; omega
  have hg := gcells_get l k
  rw [List.getElem?_eq_getElem hl] at hg
  exact ⟨b, o, l[k], e, hb, List.getElem?_eq_getElem hl, hc _ _ hg.1, hc _ _ hg.2.1, hc _ _ hg.2.2.1, hc _ _ hg.2.2.2⟩
end
section
variable {H : Type} {enc : TypeId × Value → H} {P : Program} {w : World}
theorem open_gcells_at {t e ti : TypeId} {f0 f1 f2 f3 : Field} {A : Option Addr} {n c fuel : Nat} {x : DataW H × List MemPlace} (ht : P.underlying t = some (.slice e)) (he : P.underlying e = some (.struct #[f0, f1, f2, f3])) (hone : oneCellFields P #[f0, f1, f2, f3] = true) (hC : P.cellsOf e = 4)
    (ht0 : f0.type = ti) (ht1 : f1.type = ti) (ht2 : f2.type = ti) (ht3 : f3.type = ti) (hti : P.underlying ti = some (.int .i64)) (hf : DataW.trod enc P w 0 (fun _ => true) true fuel t [.slice A n c] = some x) :
    ∃ l : List (Gr), Grs w w.heap.size A n c l ∧ (A = none → n = 0 ∧ c = 0) := by
  rcases open_slice ht hf with ⟨hcs, _⟩ | ⟨a, len, cap, m, n', D, Pl, hcs, _, hl, hm, hmm, _, hi⟩
  · have e : Value.slice A n c = .slice none 0 0 := by simpa using hcs
    injection e with e1 e2 e3
    subst e1; subst e2; subst e3
    exact ⟨[], ⟨Sl.nil_ _ _ _⟩, fun _ => ⟨rfl, rfl⟩⟩
  · have e : Value.slice A n c = .slice (some a) len cap := by simpa using hcs
    injection e with e1 e2 e3
    subst e1; subst e2; subst e3
    simp only [if_true] at hmm
    subst hmm
    have key : ∀ i, i < n → ∃ p : Gr, w.cell? (a.add (i * 4)) = some (.int .i64 p.a) ∧ w.cell? (a.add (i * 4 + 1)) = some (.int .i64 p.b) ∧ w.cell? (a.add (i * 4 + 2)) = some (.int .i64 p.c) ∧ w.cell? (a.add (i * 4 + 3)) = some (.int .i64 p.d) := by
      intro i hin
      obtain ⟨cs', hc, ht'⟩ := hi i (by omega)
      rw [hC] at hc
      obtain ⟨ys, n2, _, _, hlen, _, hg⟩ := DataW.trod_struct he ht'
      obtain ⟨_, hcl, hat⟩ := World.cells?_some hc
      obtain ⟨o0, k0⟩ := hone_of hone 0 f0 rfl
      obtain ⟨o1, k1⟩ := hone_of hone 1 f1 rfl
      obtain ⟨o2, k2⟩ := hone_of hone 2 f2 rfl
      obtain ⟨o3, k3⟩ := hone_of hone 3 f3 rfl
      match cs', hcl with
      | [u0, u1, u2, u3], _ =>
        have g0 := hg 0 f0 rfl
        have g1 := hg 1 f1 rfl
        have g2 := hg 2 f2 rfl
        have g3 := hg 3 f3 rfl
        rw [o0, k0, ht0] at g0
        rw [o1, k1, ht1] at g1
        rw [o2, k2, ht2] at g2
        rw [o3, k3, ht3] at g3
        match ys, hlen with
        | [y0, y1, y2, y3], _ =>
          obtain ⟨z0, e0, _, _⟩ := DataW.trod_int hti g0
          have e0' : u0 = .int .i64 z0 := by simpa using e0
          obtain ⟨z1, e1, _, _⟩ := DataW.trod_int hti g1
          have e1' : u1 = .int .i64 z1 := by simpa using e1
          obtain ⟨z2, e2, _, _⟩ := DataW.trod_int hti g2
          have e2' : u2 = .int .i64 z2 := by simpa using e2
          obtain ⟨z3, e3, _, _⟩ := DataW.trod_int hti g3
          have e3' : u3 = .int .i64 z3 := by simpa using e3
          refine ⟨⟨z0, z1, z2, z3⟩, ?_, ?_, ?_, ?_⟩
          · have := hat 0 (by omega)
            rw [add_add] at this
            simpa [e0'] using this
          · have := hat 1 (by omega)
            rw [add_add] at this
            simpa [e1'] using this
          · have := hat 2 (by omega)
            rw [add_add] at this
            simpa [e2'] using this
          · have := hat 3 (by omega)
            rw [add_add] at this
            simpa [e3'] using this
    obtain ⟨l, hll, hlp⟩ := list_of_fn (⟨0, 0, 0, 0⟩ : Gr) key
    refine ⟨l, ⟨⟨by rw [gcells_length, hll], hl, by simpa [maxLen] using hm, fun hn => ?_⟩⟩, fun h => by cases h⟩
    have ha := (hlp 0 (l[0]'(by omega)) (List.getElem?_eq_getElem (by omega))).1
    rw [Nat.zero_mul, show a.add 0 = a from rfl] at ha
    have hs := spot_of_cell ha
    refine ⟨a.block, a.off, congrArg some hs, World.block_lt_of_cell? w _ ha, fun k u hu => ?_⟩
    have hk : k < (gcells l).length := (List.getElem?_eq_some_iff.1 hu).1
    rw [gcells_length] at hk
    have hg := gcells_get l (k / 4)
    have hq : l[k / 4]? = some (l[k / 4]'(by omega)) := List.getElem?_eq_getElem (by omega)
    obtain ⟨p0, p1, p2, p3⟩ := hlp _ _ hq
    rw [hq] at hg
    obtain ⟨q0, q1, q2, q3⟩ := hg
    have hcase : k = k / 4 * 4 ∨ k = k / 4 * 4 + 1 ∨ k = k / 4 * 4 + 2 ∨ k = k / 4 * 4 + 3 := by omega
    rcases hcase with ek | ek | ek | ek
    · rw [ek, q0] at hu
      rw [hs, add_at] at p0
      rw [ek, ← Option.some.inj hu]
      exact p0
    · rw [ek, q1] at hu
      rw [hs, add_at] at p1
      rw [ek, ← Option.some.inj hu]
      exact p1
    · rw [ek, q2] at hu
      rw [hs, add_at] at p2
      rw [ek, ← Option.some.inj hu]
      exact p2
    · rw [ek, q3] at hu
      rw [hs, add_at] at p3
      rw [ek, ← Option.some.inj hu]
      exact p3
theorem open_gcells {t e ti : TypeId} {f0 f1 f2 f3 : Field} {v : Value} {d : DataW H} {ps : List MemPlace} {r : Reach} {b0 : Nat} (ht : P.underlying t = some (.slice e)) (he : P.underlying e = some (.struct #[f0, f1, f2, f3])) (hone : oneCellFields P #[f0, f1, f2, f3] = true) (hC : P.cellsOf e = 4)
    (ht0 : f0.type = ti) (ht1 : f1.type = ti) (ht2 : f2.type = ti) (ht3 : f3.type = ti) (hti : P.underlying ti = some (.int .i64)) (hv : Value.okWide P w r b0 t v) (h : DataW.Trod enc P w 0 (fun _ => true) true t v d ps) :
    ∃ (A : Option Addr) (n c : Nat) (l : List (Gr)), v = .slice A n c ∧ Grs w w.heap.size A n c l ∧ (A = none → n = 0 ∧ c = 0) := by
  obtain ⟨A, n, c, rfl⟩ := okWide_slice ht hv
  obtain ⟨fuel, hf⟩ := h
  obtain ⟨l, h1, h2⟩ := open_gcells_at (A := A) (n := n) (c := c) ht he hone hC ht0 ht1 ht2 ht3 hti (by simpa [Value.cells] using hf)
  exact ⟨A, n, c, l, rfl, h1, h2⟩
end

end Go.Proofs.YtgljncfijcamhaaGreatDoor
