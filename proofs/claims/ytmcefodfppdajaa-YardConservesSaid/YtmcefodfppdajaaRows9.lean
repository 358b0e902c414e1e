/- Rows of structs of one-cell fields, read as lists; arguments that are such rows, opened. No program is named here. -/
import Derived.Test.YtmcefodfppdajaaCells
import Derived.Lib.SmallJoins
import Derived.Deep.Slices
import Derived.Deep.Fields
import Derived.Deep.AppendLies
import Derived.Laws.OwnMore
import Derived.Maps.AppendAt
import Derived.Laws.AppendOwnNone
import Derived.OwnWalk
namespace Go.Proofs.Ytmcefodfppdajaa
open Go.Joins Go.ChangeShapes Go.WideShapes Go.RowKit Go.Deep

theorem add_at (b o j : Nat) : (⟨b, o, none⟩ : Addr).add j = ⟨b, o + j, none⟩ := by
  unfold Addr.add
  split
  · simp [*]
  · rfl
theorem list_of_fn {α : Type} {n : Nat} {p : Nat → α → Prop} (h : ∀ i, i < n → ∃ x, p i x) : ∃ l : List α, l.length = n ∧ ∀ i x, l[i]? = some x → p i x := by
  induction n with
  | zero => exact ⟨[], rfl, fun i x h => by simp at h⟩
  | succ n ih =>
    obtain ⟨l, h1, h2⟩ := ih fun i hi => h i (by omega)
    obtain ⟨x, hx⟩ := h n (by omega)
    refine ⟨l ++ [x], by simp [h1], fun i y hy => ?_⟩
    rcases Nat.lt_or_ge i n with hi | hi
    · rw [List.getElem?_append_left (by omega)] at hy
      exact h2 i y hy
    · rw [List.getElem?_append_right (by omega)] at hy
      obtain ⟨h3, h4⟩ := List.getElem?_eq_some_iff.1 hy
      simp at h3
      obtain rfl : i = n := by omega
      simp at h4
      subst h4
      exact hx
theorem spot_of_cell {w : World} {a : Addr} {u : Value} (h : w.cell? a = some u) : a = ⟨a.block, a.off, none⟩ := by
  obtain ⟨b, o, s⟩ := a
  unfold World.cell? at h
  split at h
  · split at h
    · cases h
    · rename_i hs
      cases s with
      | none => rfl
      | some x => simp at hs
  · cases h
theorem flat_length {α : Type} {f : α → List Value} {size : Nat} (hf : ∀ x, (f x).length = size) : ∀ l : List α, (l.flatMap f).length = l.length * size
  | [] => by simp
  | x :: l => by
    rw [List.flatMap_cons, List.length_append, hf, flat_length hf l, List.length_cons, Nat.add_mul]
    omega
theorem flat_get {α : Type} {f : α → List Value} {size : Nat} (hf : ∀ x, (f x).length = size) : ∀ {l : List α} {k j : Nat} {x : α}, l[k]? = some x → j < size → (l.flatMap f)[k * size + j]? = (f x)[j]?
  | [], _, _, _, h, _ => by simp at h
  | y :: l, 0, j, x, h, hj => by
    simp at h
    subst h
    rw [List.flatMap_cons, Nat.zero_mul, Nat.zero_add, List.getElem?_append_left (by rw [hf]; exact hj)]
  | y :: l, k + 1, j, x, h, hj => by
    rw [List.flatMap_cons, List.getElem?_append_right (by rw [hf, Nat.add_mul]; omega), hf]
    rw [show (k + 1) * size + j - size = k * size + j by rw [Nat.add_mul]; omega]
    exact flat_get hf (by simpa using h) hj

/-- A slice value that reads as a list of structs; f: the cells of one. -/
structure Rws {α : Type} (f : α → List Value) (size : Nat) (w : World) (B : Nat) (A : Option Addr) (n c : Nat) (l : List α) : Prop where
  sl : Sl w B size A n c (l.flatMap f)
  len : l.length = n
  nil : A = none → n = 0 ∧ c = 0
section
variable {α : Type} {f : α → List Value} {size : Nat} {w w' : World} {B B' n c : Nat} {A : Option Addr} {l : List α}
theorem Rws.cap (h : Rws f size w B A n c l) : n ≤ c := h.sl.cap
theorem Rws.max (h : Rws f size w B A n c l) : c ≤ 9223372036854775807 := h.sl.max
theorem Rws.below (h : Rws f size w B A n c l) {D : Nat} (hb : Below D w w') (hD : B ≤ D) (hB : B ≤ B') : Rws f size w' B' A n c l := ⟨h.sl.below hb hD hB, h.len, h.nil⟩
theorem Rws.at_ (h : Rws f size w B A n c l) (hf : ∀ x, (f x).length = size) {k : Nat} (hk : k < n) : ∃ b o x, A = some ⟨b, o, none⟩ ∧ b < B ∧ l[k]? = some x ∧ ∀ j u, (f x)[j]? = some u → w.cell? ⟨b, o + (k * size + j), none⟩ = some u := by
  obtain ⟨b, o, e, hb, hc⟩ := h.sl.cells (by omega)
  have hl : k < l.length := by rw [h.len]; exact hk
  refine ⟨b, o, l[k], e, hb, List.getElem?_eq_getElem hl, fun j u hu => ?_⟩
  have hj : j < size := by rw [← hf l[k]]; exact (List.getElem?_eq_some_iff.1 hu).1
  exact hc _ _ (by rw [flat_get hf (List.getElem?_eq_getElem hl) hj]; exact hu)
theorem Rws.take {m : Nat} (h : Rws f size w B A n c l) (hf : ∀ x, (f x).length = size) (hm : m ≤ n) : Rws f size w B A m c (l.take m) := by
  refine ⟨?_, by rw [List.length_take, h.len]; omega, fun e => by have := h.nil e; omega⟩
  have := h.sl.take hm
  have e : (l.take m).flatMap f = (l.flatMap f).take (m * size) := by
    have h1 : l.flatMap f = (l.take m).flatMap f ++ (l.drop m).flatMap f := by rw [← List.flatMap_append, List.take_append_drop]
    have h2 : ((l.take m).flatMap f).length = m * size := by rw [flat_length hf, List.length_take, h.len, Nat.min_eq_left hm]
    rw [h1, ← h2, List.take_left]
  rw [e]
  exact this
theorem Rws.nil_ (w : World) (B : Nat) : Rws f size w B none 0 0 [] := ⟨Sl.nil_ _ _ _, rfl, fun _ => ⟨rfl, rfl⟩⟩
/-- A row that the call owns. -/
theorem Sl.of_own {base e : Nat} {v : Value} {xs : List Value} (h : w.ownsRow base e size v n xs) : ∃ A c, v = .slice A n c ∧ Sl w w.heap.size size A n c xs ∧ (A = none → n = 0 ∧ c = 0) := by
  rcases h.2 with ⟨rfl, rfl⟩ | ⟨g, cap, cur, rfl, hbg, hh, hnc, hm, hs, hx⟩
  · have : xs = [] := List.eq_nil_of_length_eq_zero (by have := h.1; omega)
    subst this
    exact ⟨none, 0, rfl, Sl.nil_ _ _ _, fun _ => ⟨rfl, rfl⟩⟩
  · refine ⟨_, cap, rfl, ?_, fun h => by cases h⟩
    have hb : Bk w g e cur := hh
    rw [← hx]
    exact hb.sl hb.lt hnc hm (by rw [hs]; exact Nat.mul_le_mul_right _ hnc)
theorem Rws.of_own {base e : Nat} {v : Value} (h : w.ownsRow base e size v n (l.flatMap f)) (hl : l.length = n) : ∃ A c, v = .slice A n c ∧ Rws f size w w.heap.size A n c l := by
  obtain ⟨A, c, rfl, hs, hn⟩ := Sl.of_own h
  exact ⟨A, c, rfl, hs, hl, hn⟩
theorem own_step {w1 w2 : World} {base e : Nat} {v : Value} {xs : List Value} (h : w1.ownsRow base e size v n xs) (hb : Below w1.heap.size w1 w2) : w2.ownsRow base e size v n xs :=
  h.kept (row := none) ⟨hb.os, hb.tape, hb.output, hb.size, fun i hi _ => hb.block i hi⟩ (by
    rcases h.2 with ⟨rfl, -⟩ | ⟨g, cap, cur, rfl, -⟩
    · exact .inl rfl
    · exact .inr (by simp [Value.ownBlock]))
/-- What is appended to a row of the call's own leaves what was there. -/
theorem Below.grown_ {D : Nat} {a b : World} {r : Option Nat} (h : Below D w a) (hg : a.grownBy b r) (hD : D ≤ a.heap.size) (hr : ∀ q, r = some q → D ≤ q) : Below D w b :=
  h.trans ⟨hg.os, hg.tape, hg.output, hg.size, fun i hi => hg.block i (by omega) fun e => by have := hr i e.symm; omega⟩
/-- The cells of a row, one after another from its place. -/
theorem Rws.news {ad : Addr} (h : Rws f size w B (some ad) n c l) : ∀ j u, (l.flatMap f)[j]? = some u → w.cell? (ad.add j) = some u := fun j u hu => by
  have h0 : 0 < n := by
    rcases Nat.eq_zero_or_pos n with e | e
    · have := List.eq_nil_of_length_eq_zero (h.len.trans e)
      subst this
      simp at hu
    · exact e
  obtain ⟨b', o', e, hb, hc⟩ := h.sl.cells h0
  simp at e
  subst e
  rw [add_at]
  exact hc j u hu
end
theorem info_parts {P : Program} {t : TypeId} {z : Option Value} {s b : Nat} (h : (P.info? t).map (fun i => (i.zero, i.size, i.bytes)) = some (z, s, b)) : ∃ i0, P.info? t = some i0 ∧ i0.zero = z ∧ i0.size = s ∧ i0.bytes = b := by
  obtain ⟨i0, h0, h1⟩ := Option.map_eq_some_iff.1 h
  simp only [Prod.mk.injEq] at h1
  exact ⟨i0, h0, h1.1, h1.2.1, h1.2.2⟩
theorem info_cells {P : Program} {t : TypeId} {c s b : Nat} (h : (P.info? t).map (fun i => (i.zero.map (·.cells.size), i.size, i.bytes)) = some (some c, s, b)) : ∃ i0 z, P.info? t = some i0 ∧ i0.zero = some z ∧ z.cells.size = c ∧ i0.size = s ∧ i0.bytes = b := by
  obtain ⟨i0, h0, h1⟩ := Option.map_eq_some_iff.1 h
  simp only [Prod.mk.injEq, Option.map_eq_some_iff] at h1
  obtain ⟨⟨z, h2, h3⟩, h4, h5⟩ := h1
  exact ⟨i0, z, h0, h2, h3, h4, h5⟩
/-- A row is copied to one of the call's own that is empty. -/
theorem wpList_copy {P : Program} {w : World} {ops : Array Oper} {rest : List Oper} {o : Oper} {a : Act} {Q : Exit → Act → World → Prop} (hgd : o.guard = none) (s x : Operand) (t : TypeId)
    (ho : o.op = .call { callee := .builtin .append, args := #[s, x], argTypes := #[t, t] })
    (base : Nat) (e : TypeId) (i : TypeInfo) (z : Value) (size bytes : Nat) (ht : P.underlying t = some (.slice e)) (hi : P.info? e = some i) (hz : i.zero = some z)
    (hsize : i.size = size) (hby : i.bytes = bytes) (hzs : z.cells.size = size) (hsz : 0 < size)
    (v : Value) (hs : a.eval s = v) (hown : w.ownsRow base e size v 0 [])
    {α : Type} {f : α → List Value} (hf : ∀ x, (f x).length = size) {A : Option Addr} {n c B : Nat} {l : List α} (hx : a.eval x = .slice A n c) (hr : Rws f size w B A n c l) (h1 : ∀ u ∈ l.flatMap f, u.oneCell' = true)
    (h63 : n ≤ maxLen) (hbytes : n * bytes ≤ 140737488355328) (hbase : base ≤ w.heap.size)
    (h : ∀ v' w', w'.ownsRow base e size v' n (l.flatMap f) → w.grownBy w' v.ownBlock → wpList P ops Q rest (a.put o.dst v') w') : wpList P ops Q (o :: rest) a w := by
  cases A with
  | none =>
    obtain ⟨rfl, rfl⟩ := hr.nil rfl
    have hl : l = [] := List.eq_nil_of_length_eq_zero hr.len
    subst hl
    exact wpList_append_own_none hgd s x t ho base e i size ht hi v 0 [] hs hown hx (h v w hown (World.grownBy.refl _ _))
  | some ad =>
    exact wpList_append_own_at w hgd s x t ho base e i z size bytes ht hi hz hsize hby hzs hsz v 0 [] hs hown ad n c (l.flatMap f) hx (by rw [flat_length hf, hr.len]) hr.news h1 (by omega) (by rw [Nat.zero_add]; exact hbytes) hbase
      (fun v' w' h2 h3 _ _ => h v' w' (by simpa using h2) h3)

section
variable {H : Type} {enc : TypeId × Value → H} {P : Program} {w : World}
theorem open_rows {α : Type} {g : α → List Value} {t e : TypeId} {fs : Array Field} {size : Nat} {v : Value} {d : DataW H} {ps : List MemPlace} {r : Reach} {b0 : Nat} (hg : ∀ x, (g x).length = size) (h0 : 0 < size)
    (ht : P.underlying t = some (.slice e)) (he : P.underlying e = some (.struct fs)) (hone : oneCellFields P fs = true) (hC : P.cellsOf e = size)
    (hdec : ∀ cs' : List Value, cs'.length = size → (∀ (j : Nat) (f : Field) (u : Value), fs[j]? = some f → cs'[j]? = some u → ∃ fuel y, DataW.trod enc P w 0 (fun _ => true) true fuel f.type [u] = some y) → ∃ x : α, cs' = g x)
    (hv : Value.okWide P w r b0 t v) (h : DataW.Trod enc P w 0 (fun _ => true) true t v d ps) :
    ∃ (A : Option Addr) (n c : Nat) (l : List α), v = .slice A n c ∧ Rws g size w w.heap.size A n c l := by
  obtain ⟨A, n, c, rfl⟩ := okWide_slice ht hv
  obtain ⟨fuel, hf⟩ := h
  rcases open_slice ht hf with ⟨hcs, _⟩ | ⟨a, len, cap, m, n', D, Pl, hcs, _, hl, hm, hmm, _, hi⟩
  · have e : Value.slice A n c = .slice none 0 0 := by simpa [Value.cells] using hcs
    injection e with e1 e2 e3
    subst e1; subst e2; subst e3
    exact ⟨none, 0, 0, [], rfl, Rws.nil_ _ _⟩
  · have e : Value.slice A n c = .slice (some a) len cap := by simpa [Value.cells] using hcs
    injection e with e1 e2 e3
    subst e1; subst e2; subst e3
    simp only [if_true] at hmm
    subst hmm
    have key : ∀ i, i < n → ∃ x : α, ∀ j u, (g x)[j]? = some u → w.cell? (a.add (i * size + j)) = some u := by
      intro i hin
      obtain ⟨cs', hc, ht'⟩ := hi i (by omega)
      rw [hC] at hc
      obtain ⟨ys, n2, _, _, hlen, hys, hgt⟩ := DataW.trod_struct he ht'
      obtain ⟨_, hcl, hat⟩ := World.cells?_some hc
      obtain ⟨x, rfl⟩ := hdec cs' hcl fun j f u hj hu => by
        obtain ⟨o0, k0⟩ := hone_of hone j f hj
        have g0 := hgt j f hj
        rw [o0, k0] at g0
        have hjl := (List.getElem?_eq_some_iff.1 hu).1
        rw [show (cs'.drop j).take 1 = [u] by
          rw [List.drop_eq_getElem_cons hjl]
          simp [(List.getElem?_eq_some_iff.1 hu).2]] at g0
        have hjs : j < ys.length := by rw [hys]; exact (Array.getElem?_eq_some_iff.1 hj).1
        exact ⟨n2, ys[j], by rw [g0, List.getElem?_eq_getElem hjs]⟩
      refine ⟨x, fun j u hu => ?_⟩
      have hjl := (List.getElem?_eq_some_iff.1 hu).1
      have := hat j (by rw [hg] at hjl; exact hjl)
      rw [add_add] at this
      rw [this, hu]
    obtain ⟨l, hll, hlp⟩ := list_of_fn key
    refine ⟨some a, _, _, l, rfl, ⟨by rw [flat_length hg, hll], hl, by simpa [maxLen] using hm, fun hn => ?_⟩, hll, fun h => by cases h⟩
    have hq0 : l[0]? = some (l[0]'(by omega)) := List.getElem?_eq_getElem (by omega)
    have ha := hlp 0 _ hq0 0 _ (List.getElem?_eq_getElem (by rw [hg]; exact h0))
    rw [Nat.zero_mul, show a.add (0 + 0) = a from rfl] at ha
    have hs := spot_of_cell ha
    refine ⟨a.block, a.off, congrArg some hs, World.block_lt_of_cell? w _ ha, fun k u hu => ?_⟩
    have hk : k < (l.flatMap g).length := (List.getElem?_eq_some_iff.1 hu).1
    rw [flat_length hg] at hk
    have hkd : k / size < l.length := Nat.div_lt_of_lt_mul (by rw [Nat.mul_comm]; exact hk)
    have hkm : k % size < size := Nat.mod_lt _ h0
    have hq : l[k / size]? = some (l[k / size]'hkd) := List.getElem?_eq_getElem hkd
    have hsplit : k / size * size + k % size = k := by rw [Nat.mul_comm]; exact Nat.div_add_mod k size
    have hu2 := flat_get hg hq hkm
    rw [hsplit, hu] at hu2
    have := hlp _ _ hq _ _ hu2.symm
    rw [hsplit, hs, add_at] at this
    exact this
end

end Go.Proofs.Ytmcefodfppdajaa
