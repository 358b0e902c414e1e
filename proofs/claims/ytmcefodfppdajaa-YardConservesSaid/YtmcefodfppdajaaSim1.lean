/- Several texts in one. -/
import Derived.WalkKit
import Derived.OrdersHeld
import Derived.LoopN
import Derived.Below
import Derived.Laws.CopyRow
import Derived.Laws.AppendOwn
import Derived.RangeFuncRecord
import Derived.Maps.RangeRun
import Derived.WideShapes
import Derived.Laws.Append
import Derived.Deep.AppendSrc
import Derived.Laws.BytesString
import Derived.MapKept
/- A call whose arguments are known is carried out symbolically: values, places, what a run needs. No program is named here. -/
namespace Go.Proofs.Ytmcefodfppdajaa.Sim
open Go Go.RowKit

/-- Where a named block lies: block, first cell, number of cells, cells of an element. -/
structure Loc where
  x : Nat
  s : Nat
  n : Nat
  sz : Nat
abbrev Rn := Nat → Option Loc
def Ext (ρ ρ' : Rn) : Prop := ∀ b L, ρ b = some L → ρ' b = some L
theorem Ext.refl (ρ : Rn) : Ext ρ ρ := fun _ _ h => h
theorem Ext.trans {a b c : Rn} (h : Ext a b) (k : Ext b c) : Ext a c := fun _ _ e => k _ _ (h _ _ e)
/-- The capacity of a slice that nobody knows. -/
def UNK : Nat := 9223372036854775808

def cellLit : Value → Bool
  | .bool _ => true
  | .int _ _ => true
  | .float _ _ => true
  | .complex _ _ _ => true
  | .string _ => true
  | .pointer none => true
  | .map none => true
  | .chan none => true
  | .nilFunc => true
  | .nilIface => true
  | .slice none _ _ => true
  | .func (.func _) first captured => first.toList.isEmpty && captured.toList.isEmpty
  | _ => false
def aggLit : Value → Bool
  | .agg cs => cs.toList.all cellLit
  | v => cellLit v
def isLit : Value → Bool
  | .tuple vs => vs.toList.all aggLit
  | v => aggLit v
theorem aggLit_of_cell {v : Value} (h : cellLit v = true) : aggLit v = true := by cases v <;> simp_all [cellLit, aggLit]
theorem isLit_of_agg {v : Value} (h : aggLit v = true) : isLit v = true := by cases v <;> simp_all [cellLit, aggLit, isLit]
theorem isLit_of_cell {v : Value} (h : cellLit v = true) : isLit v = true := isLit_of_agg (aggLit_of_cell h)

/-- A value of the run with names, and what it is in memory. -/
inductive VR (ρ : Rn) : Value → Value → Prop
  | lit {v : Value} (h : isLit v = true) : VR ρ v v
  | ptr {b o : Nat} {L : Loc} (h : ρ b = some L) : VR ρ (.pointer (some ⟨b, o, none⟩)) (.pointer (some ⟨L.x, L.s + o, none⟩))
  | slice {b o n c : Nat} {L : Loc} (h : ρ b = some L) (hc : c < UNK) : VR ρ (.slice (some ⟨b, o, none⟩) n c) (.slice (some ⟨L.x, L.s + o, none⟩) n c)
  | sliceU {b o n z c' : Nat} {L : Loc} (h : ρ b = some L) (hz : L.sz = z) (h1 : n ≤ c') (h2 : c' < UNK) (h3 : o + c' * z ≤ L.n) : VR ρ (.slice (some ⟨b, o, none⟩) n (UNK + z)) (.slice (some ⟨L.x, L.s + o, none⟩) n c')
  | sliceE {b o z c x a c' : Nat} : VR ρ (.slice (some ⟨b, o, some z⟩) 0 c) (.slice (some ⟨x, a, none⟩) 0 c')
  | map {b : Nat} {L : Loc} (h : ρ b = some L) : VR ρ (.map (some b)) (.map (some L.x))
  | func {f : FuncId} {as as' cs cs' : Array Value} (h1 : as.size = as'.size) (h2 : ∀ (i : Nat) (v v' : Value), as[i]? = some v → as'[i]? = some v' → VR ρ v v') (h3 : cs.size = cs'.size) (h4 : ∀ (i : Nat) (v v' : Value), cs[i]? = some v → cs'[i]? = some v' → VR ρ v v') : VR ρ (.func (.func f) as cs) (.func (.func f) as' cs')
  | agg {cs cs' : Array Value} (h1 : cs.size = cs'.size) (h2 : ∀ (i : Nat) (v v' : Value), cs[i]? = some v → cs'[i]? = some v' → VR ρ v v') : VR ρ (.agg cs) (.agg cs')
  | tuple {cs cs' : Array Value} (h1 : cs.size = cs'.size) (h2 : ∀ (i : Nat) (v v' : Value), cs[i]? = some v → cs'[i]? = some v' → VR ρ v v') : VR ρ (.tuple cs) (.tuple cs')
theorem VR.mono {ρ ρ' : Rn} (hx : Ext ρ ρ') {v v' : Value} (h : VR ρ v v') : VR ρ' v v' := by
  induction h with
  | lit h => exact .lit h
  | ptr h => exact .ptr (hx _ _ h)
  | slice h hc => exact .slice (hx _ _ h) hc
  | sliceU h hz h1 h2 h3 => exact .sliceU (hx _ _ h) hz h1 h2 h3
  | sliceE => exact .sliceE
  | map h => exact .map (hx _ _ h)
  | func h1 _ h3 _ i1 i2 => exact .func h1 i1 h3 i2
  | agg h1 _ i1 => exact .agg h1 i1
  | tuple h1 _ i1 => exact .tuple h1 i1
theorem all_get {p : Value → Bool} {cs : Array Value} (h : cs.toList.all p = true) {i : Nat} {v : Value} (hv : cs[i]? = some v) : p v = true :=
  List.all_eq_true.1 h v (by rw [← Array.getElem?_toList] at hv; exact List.mem_of_getElem? hv)
theorem arr_eq {cs cs' : Array Value} (h1 : cs.size = cs'.size) (h : ∀ (i : Nat) (v v' : Value), cs[i]? = some v → cs'[i]? = some v' → v' = v) : cs' = cs := by
  refine Array.ext h1.symm fun i h2 h3 => ?_
  exact h i _ _ (Array.getElem?_eq_getElem h3) (Array.getElem?_eq_getElem h2)
theorem size_zero_of {cs : Array Value} (h : cs.toList.isEmpty = true) : cs = #[] := by
  have : cs.toList = [] := by simpa using h
  simpa using this
theorem VR.lit_eq {ρ : Rn} {v v' : Value} (h : VR ρ v v') : isLit v = true → v' = v := by
  induction h with
  | lit _ => exact fun _ => rfl
  | ptr _ => intro h; simp [isLit, aggLit, cellLit] at h
  | slice _ _ => intro h; simp [isLit, aggLit, cellLit] at h
  | sliceU _ _ _ _ _ => intro h; simp [isLit, aggLit, cellLit] at h
  | sliceE => intro h; simp [isLit, aggLit, cellLit] at h
  | map _ => intro h; simp [isLit, aggLit, cellLit] at h
  | func h1 _ h3 _ _ _ =>
    intro h
    simp only [isLit, aggLit, cellLit, Bool.and_eq_true] at h
    obtain ⟨ha, hb⟩ := h
    have ea := size_zero_of ha
    have eb := size_zero_of hb
    subst ea eb
    have ea' := Array.eq_empty_of_size_eq_zero (by simpa using h1.symm)
    have eb' := Array.eq_empty_of_size_eq_zero (by simpa using h3.symm)
    rw [ea', eb']
  | agg h1 _ ih =>
    intro h
    simp only [isLit, aggLit] at h
    rw [arr_eq h1 fun i v v' hv hv' => ih i v v' hv hv' (isLit_of_cell (all_get h hv))]
  | tuple h1 _ ih =>
    intro h
    simp only [isLit] at h
    rw [arr_eq h1 fun i v v' hv hv' => ih i v v' hv hv' (isLit_of_agg (all_get h hv))]

/-- Lists of values. -/
def LR (ρ : Rn) (xs ys : List Value) : Prop := xs.length = ys.length ∧ ∀ (i : Nat) (v v' : Value), xs[i]? = some v → ys[i]? = some v' → VR ρ v v'
theorem LR.mono {ρ ρ' : Rn} (hx : Ext ρ ρ') {xs ys : List Value} (h : LR ρ xs ys) : LR ρ' xs ys := ⟨h.1, fun i v v' a b => (h.2 i v v' a b).mono hx⟩
theorem LR.get {ρ : Rn} {xs ys : List Value} (h : LR ρ xs ys) {i : Nat} {v : Value} (hv : xs[i]? = some v) : ∃ v', ys[i]? = some v' ∧ VR ρ v v' := by
  have hi : i < xs.length := (List.getElem?_eq_some_iff.1 hv).1
  have hi' : i < ys.length := by have := h.1; omega
  exact ⟨ys[i], List.getElem?_eq_getElem hi', h.2 i v _ hv (List.getElem?_eq_getElem hi')⟩
theorem LR.nil (ρ : Rn) : LR ρ [] [] := ⟨rfl, fun i v v' h => by simp at h⟩
theorem LR.cons {ρ : Rn} {x y : Value} {xs ys : List Value} (h : VR ρ x y) (t : LR ρ xs ys) : LR ρ (x :: xs) (y :: ys) :=
  ⟨by simp [t.1], fun i v v' a b => by
    cases i with
    | zero => simp at a b; subst a; subst b; exact h
    | succ i => exact t.2 i v v' (by simpa using a) (by simpa using b)⟩
theorem LR.append {ρ : Rn} {xs ys xs2 ys2 : List Value} (h : LR ρ xs ys) (k : LR ρ xs2 ys2) : LR ρ (xs ++ xs2) (ys ++ ys2) :=
  ⟨by simp [h.1, k.1], fun i v v' a b => by
    rcases Nat.lt_or_ge i xs.length with hi | hi
    · rw [List.getElem?_append_left hi] at a
      rw [List.getElem?_append_left (by rw [← h.1]; exact hi)] at b
      exact h.2 i v v' a b
    · rw [List.getElem?_append_right hi] at a
      rw [List.getElem?_append_right (by rw [← h.1]; exact hi), ← h.1] at b
      exact k.2 _ v v' a b⟩
theorem LR.set {ρ : Rn} {xs ys : List Value} (h : LR ρ xs ys) (i : Nat) {v v' : Value} (hv : VR ρ v v') : LR ρ (xs.set i v) (ys.set i v') :=
  ⟨by simp [h.1], fun j u u' a b => by
    by_cases hij : i = j
    · subst hij
      have la := (List.getElem?_eq_some_iff.1 a).1
      have lb := (List.getElem?_eq_some_iff.1 b).1
      rw [List.length_set] at la lb
      rw [List.getElem?_set_self la] at a
      rw [List.getElem?_set_self lb] at b
      cases a
      cases b
      exact hv
    · rw [List.getElem?_set_ne hij] at a b
      exact h.2 j u u' a b⟩
theorem LR.take {ρ : Rn} {xs ys : List Value} (h : LR ρ xs ys) (n : Nat) : LR ρ (xs.take n) (ys.take n) :=
  ⟨by simp [h.1], fun i v v' a b => by
    rw [List.getElem?_take] at a b
    by_cases hin : i < n
    · rw [if_pos hin] at a b
      exact h.2 i v v' a b
    · rw [if_neg hin] at a
      cases a⟩
theorem LR.drop {ρ : Rn} {xs ys : List Value} (h : LR ρ xs ys) (n : Nat) : LR ρ (xs.drop n) (ys.drop n) :=
  ⟨by simp [h.1], fun i v v' a b => by
    rw [List.getElem?_drop] at a b
    exact h.2 _ v v' a b⟩
theorem LR.repl {ρ : Rn} (n : Nat) {v v' : Value} (h : VR ρ v v') : LR ρ (List.replicate n v) (List.replicate n v') :=
  ⟨by simp, fun i u u' a b => by
    have ea := List.eq_of_mem_replicate (List.mem_of_getElem? a)
    have eb := List.eq_of_mem_replicate (List.mem_of_getElem? b)
    rw [ea, eb]
    exact h⟩
theorem LR.lits {ρ : Rn} {xs : List Value} (h : xs.all isLit = true) : LR ρ xs xs := ⟨rfl, fun i v v' a b => by
  rw [a] at b
  cases b
  exact .lit (List.all_eq_true.1 h v (List.mem_of_getElem? a))⟩
theorem VR.agg_ {ρ : Rn} {xs ys : List Value} (h : LR ρ xs ys) : VR ρ (.agg xs.toArray) (.agg ys.toArray) := .agg (by simpa using h.1) fun i v v' a b => h.2 i v v' (by simpa using a) (by simpa using b)
theorem VR.tuple_ {ρ : Rn} {xs ys : List Value} (h : LR ρ xs ys) : VR ρ (.tuple xs.toArray) (.tuple ys.toArray) := .tuple (by simpa using h.1) fun i v v' a b => h.2 i v v' (by simpa using a) (by simpa using b)
/-- Opening an aggregate, a tuple. -/
theorem VR.agg_inv {ρ : Rn} {cs : Array Value} {v' : Value} (h : VR ρ (.agg cs) v') : ∃ cs', v' = .agg cs' ∧ LR ρ cs.toList cs'.toList := by
  cases h with
  | lit h => exact ⟨cs, rfl, LR.lits (List.all_eq_true.2 fun x hx => isLit_of_cell (List.all_eq_true.1 (by simpa [isLit, aggLit] using h) x hx))⟩
  | agg h1 h2 => exact ⟨_, rfl, by simpa using h1, fun i v v' a b => h2 i v v' (by simpa using a) (by simpa using b)⟩
theorem VR.tuple_inv {ρ : Rn} {cs : Array Value} {v' : Value} (h : VR ρ (.tuple cs) v') : ∃ cs', v' = .tuple cs' ∧ LR ρ cs.toList cs'.toList := by
  cases h with
  | lit h => exact ⟨cs, rfl, LR.lits (List.all_eq_true.2 fun x hx => isLit_of_agg (List.all_eq_true.1 (by simpa [isLit] using h) x hx))⟩
  | tuple h1 h2 => exact ⟨_, rfl, by simpa using h1, fun i v v' a b => h2 i v v' (by simpa using a) (by simpa using b)⟩

/-- What a step yields in whatever memory. -/
def pv (P : Program) {α : Type} : Sem α → Option α
  | .pure a => some a
  | .program k => pv P (k P)
  | .mark _ k => pv P k
  | _ => none
theorem pv_run {P : Program} {α : Type} : ∀ {s : Sem α} {a : α}, pv P s = some a → ∀ W : World, s.run P W = .ok a W
  | .pure _, _, h, W => by simp only [pv, Option.some.injEq] at h; subst h; rfl
  | .program k, _, h, W => by simp only [pv] at h; simp only [Sem.run]; exact pv_run h W
  | .mark _ k, _, h, W => by simp only [pv] at h; simp only [Sem.run]; exact pv_run h W
  | .load .., _, h, _ => by simp [pv] at h
  | .store .., _, h, _ => by simp [pv] at h
  | .new .., _, h, _ => by simp [pv] at h
  | .shape .., _, h, _ => by simp [pv] at h
  | .freeze .., _, h, _ => by simp [pv] at h
  | .frozen .., _, h, _ => by simp [pv] at h
  | .getObj .., _, h, _ => by simp [pv] at h
  | .setObj .., _, h, _ => by simp [pv] at h
  | .choose .., _, h, _ => by simp [pv] at h
  | .sys .., _, h, _ => by simp [pv] at h
  | .halt .., _, h, _ => by simp [pv] at h

end Go.Proofs.Ytmcefodfppdajaa.Sim

/- Trees instead of lists, for a quick run: frames, tables. No program is named here. -/
namespace Go.Proofs.Ytmcefodfppdajaa.Sim
open Go Go.RowKit Go.WideShapes

noncomputable section
inductive Tr (α : Type) where
  | nil
  | leaf (v : α)
  | node (h : Nat) (l r : Tr α)
def Tr.toL {α : Type} : Tr α → List α
  | .nil => []
  | .leaf v => [v]
  | .node _ l r => l.toL ++ r.toL
def Tr.ok {α : Type} : Tr α → Prop
  | .nil => True
  | .leaf _ => True
  | .node h l r => h = l.toL.length ∧ l.ok ∧ r.ok
def Tr.get {α : Type} (d : α) (t : Tr α) : Nat → α := Tr.rec (motive := fun _ => Nat → α) (fun _ => d) (fun v i => Bool.rec d v (Nat.beq i 0)) (fun h _ _ gl gr i => Bool.rec (gl i) (gr (Nat.sub i h)) (Nat.ble h i)) t
def Tr.set {α : Type} (v : α) (t : Tr α) : Nat → Tr α := Tr.rec (motive := fun _ => Nat → Tr α) (fun _ => .nil) (fun u i => Bool.rec (.leaf u) (.leaf v) (Nat.beq i 0)) (fun h l r gl gr i => Bool.rec (.node h (gl i) r) (.node h l (gr (Nat.sub i h))) (Nat.ble h i)) t
theorem Tr.get_nil {α : Type} (d : α) (i : Nat) : (Tr.nil : Tr α).get d i = d := rfl
theorem Tr.get_leaf {α : Type} (d v : α) (i : Nat) : (Tr.leaf v).get d i = if i = 0 then v else d := by
  show (Bool.rec d v (Nat.beq i 0) : α) = _
  cases i <;> rfl
theorem Tr.get_node {α : Type} (d : α) (h : Nat) (l r : Tr α) (i : Nat) : (Tr.node h l r).get d i = if h ≤ i then r.get d (i - h) else l.get d i := by
  show (Bool.rec (l.get d i) (r.get d (i - h)) (Nat.ble h i) : α) = _
  cases hb : Nat.ble h i with
  | true => rw [if_pos (Nat.le_of_ble_eq_true hb)]
  | false => rw [if_neg fun hle => by rw [Nat.ble_eq_true_of_le hle] at hb; cases hb]
theorem Tr.set_nil {α : Type} (v : α) (i : Nat) : (Tr.nil : Tr α).set v i = .nil := rfl
theorem Tr.set_leaf {α : Type} (v u : α) (i : Nat) : (Tr.leaf u).set v i = if i = 0 then .leaf v else .leaf u := by
  show (Bool.rec (.leaf u) (.leaf v) (Nat.beq i 0) : Tr α) = _
  cases i <;> rfl
theorem Tr.set_node {α : Type} (v : α) (h : Nat) (l r : Tr α) (i : Nat) : (Tr.node h l r).set v i = if h ≤ i then .node h l (r.set v (i - h)) else .node h (l.set v i) r := by
  show (Bool.rec (.node h (l.set v i) r) (.node h l (r.set v (i - h))) (Nat.ble h i) : Tr α) = _
  cases hb : Nat.ble h i with
  | true => rw [if_pos (Nat.le_of_ble_eq_true hb)]
  | false => rw [if_neg fun hle => by rw [Nat.ble_eq_true_of_le hle] at hb; cases hb]
theorem Tr.get_eq {α : Type} (d : α) : ∀ {t : Tr α}, t.ok → ∀ i, t.get d i = (t.toL[i]?).getD d
  | .nil, _, i => by simp [Tr.get_nil, Tr.toL]
  | .leaf v, _, i => by rw [Tr.get_leaf]; cases i <;> simp [Tr.toL]
  | .node h l r, ⟨e, hl, hr⟩, i => by
    rw [Tr.get_node]
    simp only [Tr.toL]
    split
    · rename_i hi
      rw [Tr.get_eq d hr, List.getElem?_append_right (by omega), e]
    · rename_i hi
      rw [Tr.get_eq d hl, List.getElem?_append_left (by omega)]
theorem Tr.set_eq {α : Type} (v : α) : ∀ {t : Tr α}, t.ok → ∀ i, (t.set v i).ok ∧ (t.set v i).toL = t.toL.set i v
  | .nil, _, i => by simp [Tr.set_nil, Tr.toL, Tr.ok]
  | .leaf u, _, i => by rw [Tr.set_leaf]; cases i <;> simp [Tr.toL, Tr.ok]
  | .node h l r, ⟨e, hl, hr⟩, i => by
    rw [Tr.set_node]
    simp only [Tr.toL]
    split
    · rename_i hi
      obtain ⟨h1, h2⟩ := Tr.set_eq v hr (i - h)
      refine ⟨⟨e, hl, h1⟩, ?_⟩
      simp only [Tr.toL]
      rw [h2, List.set_append_right _ _ (by omega), e]
    · rename_i hi
      obtain ⟨h1, h2⟩ := Tr.set_eq v hl i
      refine ⟨⟨by rw [h2, List.length_set]; exact e, h1, hr⟩, ?_⟩
      simp only [Tr.toL]
      rw [h2, List.set_append_left _ _ (by omega)]
/-- The first n of a list. -/
def bld {α : Type} : Nat → Nat → List α → Tr α
  | 0, _, _ => .nil
  | f + 1, n, l => match n with
    | 0 => .nil
    | 1 => match l with
      | [] => .nil
      | x :: _ => .leaf x
    | n + 2 => .node ((n + 2) / 2) (bld f ((n + 2) / 2) l) (bld f ((n + 2) - (n + 2) / 2) (l.drop ((n + 2) / 2)))
theorem bld_eq {α : Type} : ∀ (f n : Nat) (l : List α), n ≤ f → n ≤ l.length → (bld f n l).ok ∧ (bld f n l).toL = l.take n
  | 0, n, l, h1, h2 => by
    have : n = 0 := by omega
    subst this
    simp [bld, Tr.ok, Tr.toL]
  | f + 1, 0, l, h1, h2 => by simp [bld, Tr.ok, Tr.toL]
  | f + 1, 1, [], h1, h2 => by simp at h2
  | f + 1, 1, x :: r, h1, h2 => by simp [bld, Tr.ok, Tr.toL]
  | f + 1, n + 2, l, h1, h2 => by
    obtain ⟨a1, a2⟩ := bld_eq f ((n + 2) / 2) l (by omega) (by omega)
    obtain ⟨b1, b2⟩ := bld_eq f ((n + 2) - (n + 2) / 2) (l.drop ((n + 2) / 2)) (by omega) (by rw [List.length_drop]; omega)
    simp only [bld]
    refine ⟨⟨?_, a1, b1⟩, ?_⟩
    · rw [a2, List.length_take]; omega
    · simp only [Tr.toL, a2, b2]
      rw [← List.take_add]
      congr 1
      omega
def tab {α : Type} (l : List α) : Tr α := bld l.length l.length l
theorem tab_get {α : Type} (d : α) (l : List α) (i : Nat) : (tab l).get d i = (l[i]?).getD d := by
  obtain ⟨h1, h2⟩ := bld_eq l.length l.length l (Nat.le_refl _) (Nat.le_refl _)
  unfold tab
  rw [Tr.get_eq d h1, h2, List.take_length]
/-- n times the same. -/
def rep {α : Type} (v : α) : Nat → Nat → Tr α
  | 0, _ => .nil
  | f + 1, n => match n with
    | 0 => .nil
    | 1 => .leaf v
    | n + 2 => .node ((n + 2) / 2) (rep v f ((n + 2) / 2)) (rep v f ((n + 2) - (n + 2) / 2))
theorem rep_eq {α : Type} (v : α) : ∀ (f n : Nat), n ≤ f → (rep v f n).ok ∧ (rep v f n).toL = List.replicate n v
  | 0, n, h => by
    have : n = 0 := by omega
    subst this
    simp [rep, Tr.ok, Tr.toL]
  | f + 1, 0, h => by simp [rep, Tr.ok, Tr.toL]
  | f + 1, 1, h => by simp [rep, Tr.ok, Tr.toL]
  | f + 1, n + 2, h => by
    obtain ⟨a1, a2⟩ := rep_eq v f ((n + 2) / 2) (by omega)
    obtain ⟨b1, b2⟩ := rep_eq v f ((n + 2) - (n + 2) / 2) (by omega)
    simp only [rep]
    refine ⟨⟨?_, a1, b1⟩, ?_⟩
    · rw [a2, List.length_replicate]
    · simp only [Tr.toL, a2, b2]
      rw [List.replicate_append_replicate]
      congr 1
      omega
def putAll {α : Type} : Nat → List α → Tr α → Tr α
  | _, [], t => t
  | i, b :: r, t => putAll (i + 1) r (t.set b i)
theorem putAll_eq {α : Type} (u : α) : ∀ {bs pre : List α} {m : Nat} {t : Tr α}, t.ok → t.toL = pre ++ List.replicate m u → bs.length ≤ m → (putAll pre.length bs t).ok ∧ (putAll pre.length bs t).toL = pre ++ bs ++ List.replicate (m - bs.length) u
  | [], pre, m, t, h, e, _ => by simp [putAll, h, e]
  | b :: r, pre, m, t, h, e, hm => by
    simp only [List.length_cons] at hm
    obtain ⟨h1, h2⟩ := Tr.set_eq b h pre.length
    obtain ⟨k, rfl⟩ : ∃ k, m = k + 1 := ⟨m - 1, by omega⟩
    have h3 : (t.set b pre.length).toL = (pre ++ [b]) ++ List.replicate k u := by
      rw [h2, e, List.replicate_succ]
      simp
    have := putAll_eq u (bs := r) (pre := pre ++ [b]) (m := k) h1 h3 (by omega)
    simp only [List.length_append, List.length_cons, List.length_nil] at this
    simp only [putAll]
    refine ⟨this.1, ?_⟩
    rw [this.2]
    simp
def frame0 (bs : List Value) (n : Nat) : Tr Value := putAll 0 bs (rep undef n n)
theorem frame0_eq {bs : List Value} {n : Nat} (h : bs.length ≤ n) : (frame0 bs n).ok ∧ (frame0 bs n).toL = bs ++ List.replicate (n - bs.length) undef := by
  obtain ⟨h1, h2⟩ := rep_eq undef n n (Nat.le_refl n)
  have := putAll_eq undef (bs := bs) (pre := []) (m := n) h1 (by simpa using h2) h
  simpa [frame0] using this
/-- A frame that reads as the list. -/
def FR (ρ : Rn) (t : Tr Value) (l : List Value) : Prop := t.ok ∧ LR ρ t.toL l
theorem FR.mono {ρ ρ' : Rn} (hx : Ext ρ ρ') {t : Tr Value} {l : List Value} (h : FR ρ t l) : FR ρ' t l := ⟨h.1, h.2.mono hx⟩
theorem FR.set {ρ : Rn} {t : Tr Value} {l : List Value} (h : FR ρ t l) (i : Nat) {v v' : Value} (hv : VR ρ v v') : FR ρ (t.set v i) (l.set i v') := by
  obtain ⟨h1, h2⟩ := Tr.set_eq v h.1 i
  refine ⟨h1, ?_⟩
  rw [h2]
  exact h.2.set i hv
theorem FR.get {ρ : Rn} {t : Tr Value} {l : List Value} (h : FR ρ t l) (i : Nat) : VR ρ (t.get undef i) ((l[i]?).getD undef) := by
  rw [Tr.get_eq undef h.1]
  cases hv : t.toL[i]? with
  | none =>
    have h1 : t.toL.length ≤ i := by simpa using hv
    have h2 : l[i]? = none := by
      have := h.2.1
      simp at this ⊢
      omega
    rw [h2]
    exact .lit rfl
  | some v =>
    obtain ⟨v', k1, k2⟩ := h.2.get hv
    rw [k1]
    exact k2
/-- Tables of a program. -/
def infT (P : Program) : Tr (Option TypeInfo) := tab (P.types.toList.map some)
def inf (P : Program) (t : TypeId) : Option TypeInfo :=
  match (infT P).get none t with
  | some i => some i
  | none => P.info? t
def und (P : Program) (t : TypeId) : Option TypeDesc :=
  match inf P t with
  | some i => match i.desc with
    | .named _ u => (inf P u).map (·.desc)
    | d => some d
  | none => none
theorem inf_eq (P : Program) (t : TypeId) : inf P t = P.info? t := by
  unfold inf
  split
  · rename_i i h
    unfold infT at h
    rw [tab_get, List.getElem?_map] at h
    cases hv : P.types.toList[t]? with
    | none => rw [hv] at h; cases h
    | some j =>
      rw [hv] at h
      cases h
      have hlt : t < P.types.size := by simpa using (List.getElem?_eq_some_iff.1 hv).1
      unfold Tables.info?
      rw [if_pos hlt, ← Array.getElem?_toList, hv]
  · rfl
theorem und_eq (P : Program) (t : TypeId) : und P t = P.underlying t := by
  unfold und Program.underlying
  rw [inf_eq]
  cases hi : P.info? t with
  | none => rfl
  | some i =>
    obtain ⟨d⟩ := i
    cases d <;> first
      | rfl
      | (simp only [inf_eq])
def funT (P : Program) : Tr (Option Func) := tab (P.funcs.toList.map some)
def fun1 (P : Program) (f : FuncId) : Option Func := (funT P).get none f
theorem fun1_eq (P : Program) (f : FuncId) : fun1 P f = P.funcs[f]? := by
  unfold fun1 funT
  rw [tab_get, List.getElem?_map, Array.getElem?_toList]
  cases P.funcs[f]? <;> rfl
end

end Go.Proofs.Ytmcefodfppdajaa.Sim

/- Symbolic memory: blocks by name, and how they lie in a world. No program is named here. -/
set_option linter.unusedSimpArgs false
namespace Go.Proofs.Ytmcefodfppdajaa.Sim
open Go Go.RowKit Go.WideShapes

noncomputable section

inductive SObj where
  | cells (xs : List Value) (t : TypeId)
  | map (es : List (Value × Value × Nat)) (clock : Nat)
  | iter (m since : Nat) (seen : List Nat) (c0 : Nat)
  | dead
def isDead : SObj → Bool
  | .dead => true
  | _ => false
abbrev Heap := List (Nat × SObj)
def hget (H : Heap) (b : Nat) : Option SObj := List.rec (motive := fun _ => Option SObj) none (fun e _ ih => Bool.rec ih (some e.2) (Nat.beq e.1 b)) H
theorem hget_nil (b : Nat) : hget [] b = none := rfl
theorem hget_eq (k : Nat) (o : SObj) (r : Heap) (b : Nat) : hget ((k, o) :: r) b = match Nat.beq k b with
    | true => some o
    | false => hget r b := by
  show (Bool.rec (hget r b) (some o) (Nat.beq k b) : Option SObj) = _
  cases Nat.beq k b <;> rfl
def hset (H : Heap) (b : Nat) (o' : SObj) : Heap := List.rec (motive := fun _ => Heap) [] (fun e r ih => Bool.rec (e :: ih) ((e.1, o') :: r) (Nat.beq e.1 b)) H
theorem hset_eq (k : Nat) (o : SObj) (r : Heap) (b : Nat) (o' : SObj) : hset ((k, o) :: r) b o' = match Nat.beq k b with
    | true => (k, o') :: r
    | false => (k, o) :: hset r b o' := by
  show (Bool.rec ((k, o) :: hset r b o') ((k, o') :: r) (Nat.beq k b) : Heap) = _
  cases Nat.beq k b <;> rfl
def hins : Heap → Nat → SObj → Heap
  | [], b, o => [(b, o)]
  | (k, o) :: r, b, o' => match Nat.ble k b with
    | true => (b, o') :: (k, o) :: r
    | false => (k, o) :: hins r b o'
theorem beq_of (a b : Nat) : (Nat.beq a b = true ↔ a = b) := ⟨Nat.eq_of_beq_eq_true, fun h => by subst h; exact Nat.beq_refl a⟩
theorem hget_hset_same : ∀ {H : Heap} {b : Nat} {o o' : SObj}, hget H b = some o → hget (hset H b o') b = some o'
  | [], _, _, _, h => by simp [hget_nil, hget_eq] at h
  | (k, o) :: r, b, _, o', h => by
    simp only [hget_nil, hget_eq] at h
    simp only [hset_eq]
    cases hk : Nat.beq k b with
    | true => simp only [hget_nil, hget_eq, hk]
    | false =>
      rw [hk] at h
      simp only [hget_nil, hget_eq, hk]
      exact hget_hset_same h
theorem hget_hset_other : ∀ {H : Heap} {b c : Nat} {o' : SObj}, c ≠ b → hget (hset H b o') c = hget H c
  | [], _, _, _, _ => rfl
  | (k, o) :: r, b, c, o', h => by
    simp only [hset_eq]
    cases hk : Nat.beq k b with
    | true =>
      have hkb := (beq_of _ _).1 hk
      have hkc : Nat.beq k c = false := by
        cases hc : Nat.beq k c with
        | false => rfl
        | true => exact absurd ((beq_of _ _).1 hc) (by omega)
      simp only [hget_nil, hget_eq, hkc]
    | false =>
      simp only [hget_nil, hget_eq]
      cases hc : Nat.beq k c with
      | true => rfl
      | false => exact hget_hset_other h
theorem hget_hins_same : ∀ {H : Heap} {b : Nat} {o' : SObj}, hget H b = none → hget (hins H b o') b = some o'
  | [], b, _, _ => by simp [hins, hget_nil, hget_eq, Nat.beq_refl]
  | (k, o) :: r, b, o', h => by
    simp only [hget_nil, hget_eq] at h
    simp only [hins]
    cases hk : Nat.beq k b with
    | true => rw [hk] at h; cases h
    | false =>
      rw [hk] at h
      cases hl : Nat.ble k b with
      | true => simp only [hget_nil, hget_eq, Nat.beq_refl]
      | false =>
        simp only [hget_nil, hget_eq, hk]
        exact hget_hins_same h
theorem hget_hins_other : ∀ {H : Heap} {b c : Nat} {o' : SObj}, c ≠ b → hget (hins H b o') c = hget H c
  | [], b, c, _, h => by
    have : Nat.beq b c = false := by
      cases hc : Nat.beq b c with
      | false => rfl
      | true => exact absurd ((beq_of _ _).1 hc).symm h
    simp only [hins, hget_nil, hget_eq, this]
  | (k, o) :: r, b, c, o', h => by
    have hbc : Nat.beq b c = false := by
      cases hc : Nat.beq b c with
      | false => rfl
      | true => exact absurd ((beq_of _ _).1 hc).symm h
    simp only [hins]
    cases hl : Nat.ble k b with
    | true => simp only [hget_nil, hget_eq, hbc]
    | false =>
      simp only [hget_nil, hget_eq]
      cases hc : Nat.beq k c with
      | true => rfl
      | false => exact hget_hins_other h

/-- Entries of a map. -/
def ER (ρ : Rn) (es : List (Value × Value × Nat)) (fs : List MapEntry) : Prop :=
  es.length = fs.length ∧ ∀ (i : Nat) (e : Value × Value × Nat) (f : MapEntry), es[i]? = some e → fs[i]? = some f → f.key = e.1 ∧ VR ρ e.2.1 f.val ∧ f.born = e.2.2
def szOf (P : Program) (t : TypeId) : Nat := ((P.info? t).map (·.size)).getD 0
def OR (P : Program) (ρ : Rn) (W : World) (L : Loc) : SObj → Prop
  | .cells xs t => L.sz = szOf P t ∧ ∃ cs, W.heap[L.x]? = some (.cells cs t (0, 0)) ∧ cs.size = L.s + L.n ∧ xs.length ≤ L.n ∧ ∀ (i : Nat) (v : Value), xs[i]? = some v → ∃ v', cs[L.s + i]? = some v' ∧ VR ρ v v'
  | .map es k => ∃ fs, W.heap[L.x]? = some (.map fs k) ∧ ER ρ es fs.toList
  | .iter m since seen c0 => L.s = 0 ∧ ∃ M, ρ m = some M ∧ W.heap[L.x]? = some (.mapIter (some M.x) since seen.toArray c0)
  | .dead => True
structure HR (P : Program) (n0 : Nat) (ρ : Rn) (H : Heap) (W : World) : Prop where
  dom : ∀ b L, ρ b = some L → (hget H b).isSome = true
  obj : ∀ b o, hget H b = some o → ∃ L, ρ b = some L ∧ n0 ≤ L.x ∧ L.x < W.heap.size ∧ OR P ρ W L o
  inj : ∀ b b' o o' L L', hget H b = some o → hget H b' = some o' → isDead o = false → isDead o' = false → ρ b = some L → ρ b' = some L' → L.x = L'.x → b = b'
/-- What a step has done. -/
structure Okay (P : Program) (n0 : Nat) (ρ : Rn) (H : Heap) (W : World) (H' : Heap) (wr : List Nat) (ρ' : Rn) (W' : World) : Prop where
  ext : Ext ρ ρ'
  hr : HR P n0 ρ' H' W'
  below : Below n0 W W'
  fr : ∀ b o L, hget H b = some o → isDead o = false → b ∉ wr → ρ b = some L → hget H' b = some o ∧ W'.heap[L.x]? = W.heap[L.x]?
  fr1 : ∀ b o, hget H b = some o → b ∉ wr → hget H' b = some o

theorem OR.mono {P : Program} {ρ ρ' : Rn} {W W' : World} {L : Loc} {o : SObj} (h : OR P ρ W L o) (hx : Ext ρ ρ') (hw : W'.heap[L.x]? = W.heap[L.x]?) : OR P ρ' W' L o := by
  cases o with
  | cells xs t =>
    obtain ⟨h0, cs, h1, h2, h3, h4⟩ := h
    exact ⟨h0, cs, hw.trans h1, h2, h3, fun i v hv => by obtain ⟨v', a, b⟩ := h4 i v hv; exact ⟨v', a, b.mono hx⟩⟩
  | map es k =>
    obtain ⟨fs, h1, h2, h3⟩ := h
    exact ⟨fs, hw.trans h1, h2, fun i e f a b => by obtain ⟨x, y, z⟩ := h3 i e f a b; exact ⟨x, y.mono hx, z⟩⟩
  | iter m since seen c0 =>
    obtain ⟨h0, M, h1, h2⟩ := h
    exact ⟨h0, M, hx _ _ h1, hw.trans h2⟩
  | dead => trivial
theorem Okay.refl {P : Program} {n0 : Nat} {ρ : Rn} {H : Heap} {W : World} (h : HR P n0 ρ H W) : Okay P n0 ρ H W H [] ρ W := ⟨Ext.refl _, h, Below.refl _ _, fun _ _ _ a _ _ _ => ⟨a, rfl⟩, fun _ _ a _ => a⟩
theorem HR.drew {P : Program} {n0 : Nat} {ρ : Rn} {H : Heap} {W : World} (h : HR P n0 ρ H W) : HR P n0 ρ H W.drew := ⟨h.dom, fun b o a => by
  obtain ⟨L, h1, h2, h3, h4⟩ := h.obj b o a
  exact ⟨L, h1, h2, h3, h4.mono (Ext.refl _) rfl⟩, h.inj⟩
theorem Okay.trans {P : Program} {n0 : Nat} {ρ ρ1 ρ2 : Rn} {H H1 H2 : Heap} {W W1 W2 : World} {wr wr1 : List Nat} (h : Okay P n0 ρ H W H1 wr ρ1 W1) (k : Okay P n0 ρ1 H1 W1 H2 wr1 ρ2 W2) : Okay P n0 ρ H W H2 (wr ++ wr1) ρ2 W2 :=
  ⟨h.ext.trans k.ext, k.hr, h.below.trans k.below, fun b o L a hd hn hL => by
    simp only [List.mem_append, not_or] at hn
    obtain ⟨x, y⟩ := h.fr b o L a hd hn.1 hL
    obtain ⟨x2, y2⟩ := k.fr b o L x hd hn.2 (h.ext _ _ hL)
    exact ⟨x2, y2.trans y⟩, fun b o a hn => by
    simp only [List.mem_append, not_or] at hn
    exact k.fr1 b o (h.fr1 b o a hn.1) hn.2⟩
theorem Okay.wr_sub {P : Program} {n0 : Nat} {ρ ρ1 : Rn} {H H1 : Heap} {W W1 : World} {wr wr' : List Nat} (h : Okay P n0 ρ H W H1 wr ρ1 W1) (hs : ∀ b, b ∈ wr → b ∈ wr') : Okay P n0 ρ H W H1 wr' ρ1 W1 :=
  ⟨h.ext, h.hr, h.below, fun b o L a hd hn hL => h.fr b o L a hd (fun hb => hn (hs b hb)) hL, fun b o a hn => h.fr1 b o a (fun hb => hn (hs b hb))⟩

/-- A new block. -/
theorem HR.alloc {P : Program} {n0 : Nat} {ρ : Rn} {H : Heap} {W : World} (h : HR P n0 ρ H W) (h0 : n0 ≤ W.heap.size) {b : Nat} (hb : hget H b = none) (o : SObj) (O : Obj) (N sz : Nat)
    (hO : ∀ ρ' : Rn, Ext ρ ρ' → OR P ρ' (W.alloc O) ⟨W.heap.size, 0, N, sz⟩ o) :
    ∃ ρ', ρ' b = some ⟨W.heap.size, 0, N, sz⟩ ∧ Okay P n0 ρ H W (hins H b o) [] ρ' (W.alloc O) := by
  have hρ : ρ b = none := by
    cases hr : ρ b with
    | none => rfl
    | some L => have := h.dom b L hr; rw [hb] at this; cases this
  have hx : Ext ρ (fun k => if k = b then some ⟨W.heap.size, 0, N, sz⟩ else ρ k) := fun k L hk => by
    by_cases e : k = b
    · subst e; rw [hρ] at hk; cases hk
    · simp [e, hk]
  have hold : ∀ k o', hget H k = some o' → k ≠ b := fun k o' hk e => by subst e; rw [hb] at hk; cases hk
  refine ⟨fun k => if k = b then some ⟨W.heap.size, 0, N, sz⟩ else ρ k, by simp, hx, ⟨?_, ?_, ?_⟩, (Below.refl _ _).alloc h0 _, fun k o' L hk hd _ hL => ⟨?_, ?_⟩, fun k o' hk _ => by rw [hget_hins_other (hold k o' hk)]; exact hk⟩
  · intro k L hk
    by_cases e : k = b
    · subst e; rw [hget_hins_same hb]; rfl
    · rw [hget_hins_other e]; simp [e] at hk; exact h.dom k L hk
  · intro k o' hk
    by_cases e : k = b
    · subst e
      rw [hget_hins_same hb] at hk
      cases hk
      exact ⟨_, by simp, h0, by simp, hO _ hx⟩
    · rw [hget_hins_other e] at hk
      obtain ⟨L, h1, h2, h3, h4⟩ := h.obj k o' hk
      exact ⟨L, by simp [e, h1], h2, by simp; omega, h4.mono hx (Below.heap_alloc W O _ h3)⟩
  · intro k k' o1 o2 L L' hk hk' hd hd' hL hL' he
    by_cases e : k = b
    · by_cases e' : k' = b
      · rw [e, e']
      · rw [hget_hins_other e'] at hk'
        simp [e] at hL
        simp [e'] at hL'
        obtain ⟨L2, h1, h2, h3, h4⟩ := h.obj k' _ hk'
        rw [hL'] at h1
        cases h1
        subst hL
        simp at he
        omega
    · by_cases e' : k' = b
      · rw [hget_hins_other e] at hk
        simp [e] at hL
        simp [e'] at hL'
        obtain ⟨L2, h1, h2, h3, h4⟩ := h.obj k _ hk
        rw [hL] at h1
        cases h1
        subst hL'
        simp at he
        omega
      · rw [hget_hins_other e] at hk
        rw [hget_hins_other e'] at hk'
        simp [e] at hL
        simp [e'] at hL'
        exact h.inj k k' o1 o2 L L' hk hk' hd hd' hL hL' he
  · rw [hget_hins_other (hold k o' hk)]
    exact hk
  · obtain ⟨L2, h1, h2, h3, h4⟩ := h.obj k _ hk
    rw [hL] at h1
    cases h1
    exact Below.heap_alloc W O _ h3
theorem HR.alloc_cells {P : Program} {n0 : Nat} {ρ : Rn} {H : Heap} {W : World} (h : HR P n0 ρ H W) (h0 : n0 ≤ W.heap.size) {b : Nat} (hb : hget H b = none) {xs ys : List Value} (hl : LR ρ xs ys) (t : TypeId) (more : List Value) :
    ∃ ρ', ρ' b = some ⟨W.heap.size, 0, ys.length + more.length, szOf P t⟩ ∧ Okay P n0 ρ H W (hins H b (.cells xs t)) [] ρ' (W.alloc (.cells (ys ++ more).toArray t)) :=
  h.alloc h0 hb (.cells xs t) (.cells (ys ++ more).toArray t) _ (szOf P t) fun ρ' hx =>
    ⟨rfl, (ys ++ more).toArray, World.alloc_heap_new W _, by simp, by rw [hl.1]; simp, fun i v hv => by
      obtain ⟨v', a, b⟩ := hl.get hv
      refine ⟨v', ?_, b.mono hx⟩
      have : i < ys.length := (List.getElem?_eq_some_iff.1 a).1
      simp [List.getElem?_append_left this, a]⟩

def ovl (xs : List Value) (o : Nat) (vs : List Value) : List Value := xs.take o ++ vs ++ xs.drop (o + vs.length)
theorem ovl_length {xs vs : List Value} {o : Nat} (h : o + vs.length ≤ xs.length) : (ovl xs o vs).length = xs.length := by
  simp [ovl]
  omega
theorem ovl_get {xs vs : List Value} {o : Nat} (h : o + vs.length ≤ xs.length) (i : Nat) : (ovl xs o vs)[i]? = if o ≤ i ∧ i < o + vs.length then vs[i - o]? else xs[i]? := by
  unfold ovl
  by_cases h1 : i < o
  · rw [if_neg (by omega), List.getElem?_append_left (by simp; omega), List.getElem?_append_left (by simp; omega), List.getElem?_take, if_pos h1]
  · by_cases h2 : i < o + vs.length
    · rw [if_pos (by omega), List.getElem?_append_left (by simp; omega), List.getElem?_append_right (by simp; omega)]
      congr 1
      simp
      omega
    · rw [if_neg (by omega), List.getElem?_append_right (by simp; omega), List.getElem?_drop]
      congr 1
      simp
      omega
/-- A store into a block. -/
theorem HR.store {P : Program} {n0 : Nat} {ρ : Rn} {H : Heap} {W : World} (h : HR P n0 ρ H W) {b o : Nat} {xs : List Value} {t : TypeId} (hb : hget H b = some (.cells xs t)) {L : Loc} (hL : ρ b = some L) {vs vs' : List Value}
    (ho : o + vs.length ≤ xs.length) (hv : LR ρ vs vs') :
    ∃ cs : Array Value, W.heap[L.x]? = some (.cells cs t (0, 0)) ∧ L.s + o + vs'.length ≤ cs.size ∧
      Okay P n0 ρ H W (hset H b (.cells (ovl xs o vs) t)) [b] ρ (W.setRow L.x (cs.toList.take (L.s + o) ++ vs' ++ cs.toList.drop (L.s + o + vs'.length)).toArray) := by
  obtain ⟨L2, h1, h2, h3, g0, cs, g1, g2, g3, g4⟩ := h.obj b _ hb
  rw [hL] at h1
  cases h1
  have hvl := hv.1
  have hfit : L.s + o + vs'.length ≤ cs.toList.length := by simp; omega
  refine ⟨cs, g1, by simpa using hfit, Ext.refl _, ⟨?_, ?_, ?_⟩, ⟨rfl, rfl, rfl, by simp, fun k hk => setRow_other W _ k _ (by omega)⟩, ?_, fun k o' hk hn => by simp at hn; rw [hget_hset_other hn]; exact hk⟩
  · intro k L' hk
    by_cases e : k = b
    · subst e; rw [hget_hset_same hb]; rfl
    · rw [hget_hset_other e]; exact h.dom k L' hk
  · intro k o' hk
    by_cases e : k = b
    · subst e
      rw [hget_hset_same hb] at hk
      cases hk
      refine ⟨L, hL, h2, by simpa using h3, g0, _, setRow_heap W L.x cs _ t (0, 0) g1, ?_, by rw [ovl_length ho]; exact g3, ?_⟩
      · have := ovl_length (xs := cs.toList) (vs := vs') (o := L.s + o) (by omega)
        unfold ovl at this
        rw [List.size_toArray, this]
        simpa using g2
      · intro i v hi
        rw [ovl_get ho] at hi
        have e2 := ovl_get (xs := cs.toList) (vs := vs') (o := L.s + o) (by omega) (L.s + i)
        unfold ovl at e2
        rw [List.getElem?_toArray, e2]
        by_cases hin : o ≤ i ∧ i < o + vs.length
        · rw [if_pos hin] at hi
          rw [if_pos (by omega)]
          obtain ⟨v', a, b⟩ := hv.get hi
          exact ⟨v', by rw [show L.s + i - (L.s + o) = i - o from by omega]; exact a, b⟩
        · rw [if_neg hin] at hi
          rw [if_neg (by omega)]
          obtain ⟨v', a, b⟩ := g4 i v hi
          exact ⟨v', by simpa using a, b⟩
    · rw [hget_hset_other e] at hk
      obtain ⟨L', k1, k2, k3, k4⟩ := h.obj k o' hk
      refine ⟨L', k1, k2, by simpa using k3, ?_⟩
      cases hd : isDead o' with
      | true => cases o' <;> first | trivial | cases hd
      | false => exact k4.mono (Ext.refl _) (setRow_other W _ _ _ fun e' => e (h.inj k b o' _ L' L hk hb hd rfl k1 hL e'))
  · intro k k' o1 o2 M M' hk hk' hd hd' hM hM' he
    have lift : ∀ j oj, hget (hset H b (.cells (ovl xs o vs) t)) j = some oj → isDead oj = false → ∃ oj', hget H j = some oj' ∧ isDead oj' = false := fun j oj hj hdj => by
      by_cases e : j = b
      · subst e; exact ⟨_, hb, rfl⟩
      · rw [hget_hset_other e] at hj; exact ⟨oj, hj, hdj⟩
    obtain ⟨p1, q1, r1⟩ := lift k o1 hk hd
    obtain ⟨p2, q2, r2⟩ := lift k' o2 hk' hd'
    exact h.inj k k' p1 p2 M M' q1 q2 r1 r2 hM hM' he
  · intro k o' M hk hd hn hM
    simp at hn
    rw [hget_hset_other hn]
    exact ⟨hk, setRow_other W _ _ _ fun e' => hn (h.inj k b o' _ M L hk hb hd rfl hM hL e')⟩
/-- A load. -/
theorem HR.cells {P : Program} {n0 : Nat} {ρ : Rn} {H : Heap} {W : World} (h : HR P n0 ρ H W) {b : Nat} {xs : List Value} {t : TypeId} (hb : hget H b = some (.cells xs t)) {L : Loc} (hL : ρ b = some L) (o n : Nat) (ho : o + n ≤ xs.length) :
    ∃ ys : List Value, LR ρ ((xs.drop o).take n) ys ∧ ys.length = n ∧ (∀ (j : Nat) (v : Value), ys[j]? = some v → W.cell? ((⟨L.x, L.s + o, none⟩ : Addr).add j) = some v) := by
  obtain ⟨L2, h1, h2, h3, g0, cs, g1, g2, g3, g4⟩ := h.obj b _ hb
  rw [hL] at h1
  cases h1
  have hlen : ((cs.toList.drop (L.s + o)).take n).length = n := by simp; omega
  refine ⟨(cs.toList.drop (L.s + o)).take n, ⟨by rw [hlen]; simp; omega, ?_⟩, hlen, ?_⟩
  · intro i v v' a c
    rw [List.getElem?_take, List.getElem?_drop] at a c
    by_cases hin : i < n
    · rw [if_pos hin] at a c
      obtain ⟨v2, p, q⟩ := g4 (o + i) v a
      rw [Array.getElem?_toList, show L.s + o + i = L.s + (o + i) from by omega, p] at c
      cases c
      exact q
    · rw [if_neg hin] at a
      cases a
  · intro j v hv
    rw [List.getElem?_take, List.getElem?_drop] at hv
    by_cases hin : j < n
    · rw [if_pos hin, Array.getElem?_toList] at hv
      rw [add_plain, cell_of_row W L.x _ cs t (0, 0) g1]
      exact hv
    · rw [if_neg hin] at hv
      cases hv

end
end Go.Proofs.Ytmcefodfppdajaa.Sim

/- Symbolic run of single operations: those that look at memory, one lemma each. No program is named here. -/
set_option linter.unusedSimpArgs false
namespace Go.Proofs.Ytmcefodfppdajaa.Sim
open Go Go.RowKit Go.WideShapes

noncomputable section
variable {P : Program}
theorem info_get {t : TypeId} {i : TypeInfo} (h : P.info? t = some i) (W : World) : (typeInfo t).run P W = .ok i W := by simp [typeInfo, h]
theorem size_get {t : TypeId} {i : TypeInfo} (h : P.info? t = some i) (W : World) : (sizeOf t).run P W = .ok i.size W := by simp [sizeOf, typeInfo, h]
theorem zero_get {t : TypeId} {i : TypeInfo} {z : Value} (h : P.info? t = some i) (hz : i.zero = some z) (W : World) : (zeroValue t).run P W = .ok z W := by simp [zeroValue, typeInfo, h, hz]
theorem szOf_eq {t : TypeId} {i : TypeInfo} (h : P.info? t = some i) : szOf P t = i.size := by simp [szOf, h]
def isAggD : TypeDesc → Bool
  | .struct _ => true
  | .array _ _ => true
  | _ => false
theorem agg_get {t : TypeId} {d : TypeDesc} (h : P.underlying t = some d) (W : World) : (isAgg t).run P W = .ok (isAggD d) W := by
  unfold isAgg
  rw [Sem.run_bind, run_underlying h W]
  cases d <;> rfl
theorem VR.ptr_inv {ρ : Rn} {b o : Nat} {v' : Value} (h : VR ρ (.pointer (some ⟨b, o, none⟩)) v') : ∃ L, ρ b = some L ∧ v' = .pointer (some ⟨L.x, L.s + o, none⟩) := by
  cases h with
  | lit h => simp [isLit, aggLit, cellLit] at h
  | ptr h => exact ⟨_, h, rfl⟩
theorem VR.map_inv {ρ : Rn} {b : Nat} {v' : Value} (h : VR ρ (.map (some b)) v') : ∃ L, ρ b = some L ∧ v' = .map (some L.x) := by
  cases h with
  | lit h => simp [isLit, aggLit, cellLit] at h
  | map h => exact ⟨_, h, rfl⟩
theorem VR.slice_inv {ρ : Rn} {b o n c : Nat} {v' : Value} (h : VR ρ (.slice (some ⟨b, o, none⟩) n c) v') :
    ∃ L, ρ b = some L ∧ ∃ c', v' = .slice (some ⟨L.x, L.s + o, none⟩) n c' ∧ ((c < UNK ∧ c' = c) ∨ (UNK ≤ c ∧ c = UNK + L.sz ∧ n ≤ c' ∧ c' < UNK ∧ o + c' * L.sz ≤ L.n)) := by
  cases h with
  | lit h => simp [isLit, aggLit, cellLit] at h
  | slice h hc => exact ⟨_, h, _, rfl, .inl ⟨hc, rfl⟩⟩
  | sliceU h hz h1 h2 h3 => subst hz; exact ⟨_, h, _, rfl, .inr ⟨Nat.le_add_right _ _, rfl, h1, h2, h3⟩⟩
theorem VR.int_inv {ρ : Rn} {k : IntKind} {n : Int} {v' : Value} (h : VR ρ (.int k n) v') : v' = .int k n := h.lit_eq rfl
theorem VR.cells {ρ : Rn} {v v' : Value} (h : VR ρ v v') : LR ρ v.cells.toList v'.cells.toList := by
  by_cases hl : isLit v = true
  · have e := h.lit_eq hl
    subst e
    cases v' <;> first
      | exact (VR.agg_inv h).elim fun cs' hh => by obtain ⟨e, k⟩ := hh; cases e; exact k
      | exact LR.cons h (LR.nil ρ)
  · cases h with
    | lit h => exact absurd h hl
    | agg h1 h2 => exact ⟨by simpa [Value.cells] using h1, fun i v v' a b => h2 i v v' (by simpa [Value.cells] using a) (by simpa [Value.cells] using b)⟩
    | ptr h => exact LR.cons (.ptr h) (LR.nil ρ)
    | slice h hc => exact LR.cons (.slice h hc) (LR.nil ρ)
    | sliceU h hz h1 h2 h3 => exact LR.cons (.sliceU h hz h1 h2 h3) (LR.nil ρ)
    | sliceE => exact LR.cons .sliceE (LR.nil ρ)
    | map h => exact LR.cons (.map h) (LR.nil ρ)
    | func h1 h2 h3 h4 => exact LR.cons (.func h1 h2 h3 h4) (LR.nil ρ)
    | tuple h1 h2 => exact LR.cons (.tuple h1 h2) (LR.nil ρ)
theorem VR.empty_inv {ρ : Rn} {b o z n c : Nat} {v' : Value} (h : VR ρ (.slice (some ⟨b, o, some z⟩) n c) v') : ∃ A c', v' = .slice A n c' := by
  cases h with
  | lit h => simp [isLit, aggLit, cellLit] at h
  | sliceE => exact ⟨_, _, rfl⟩
theorem VR.one {ρ : Rn} {v v' : Value} (h : VR ρ v v') : v'.oneCell' = v.oneCell' := by
  cases h <;> rfl
theorem LR.ones {ρ : Rn} {xs ys : List Value} (h : LR ρ xs ys) (h1 : xs.all (·.oneCell') = true) : ∀ v ∈ ys, v.oneCell' = true := by
  intro v hv
  obtain ⟨i, hi⟩ := List.getElem?_of_mem hv
  have hlt : i < xs.length := by have := (List.getElem?_eq_some_iff.1 hi).1; rw [h.1]; exact this
  have := h.2 i xs[i] v (List.getElem?_eq_getElem hlt) hi
  rw [this.one]
  exact List.all_eq_true.1 h1 _ (List.getElem_mem hlt)

/-- Load. -/
def sload (P : Program) (t : TypeId) (v : Value) (H : Heap) : Option Value :=
  match v with
  | .pointer (some ⟨b, o, none⟩) => match hget H b with
    | some (.cells xs _) => match und P t, inf P t with
      | some d, some i => match isAggD d with
        | true => match Nat.ble (o + i.size) xs.length with
          | true => some (.agg ((xs.drop o).take i.size).toArray)
          | false => none
        | false => xs[o]?
      | _, _ => none
    | _ => none
  | _ => none
theorem sload_ok {n0 : Nat} {ρ : Rn} {H : Heap} {W : World} {t : TypeId} {v v' u : Value} (hs : sload P t v H = some u) (hv : VR ρ v v') (h : HR P n0 ρ H W) : ∃ u', (Instr.loadAt t v').run P W = .ok u' W ∧ VR ρ u u' := by
  unfold sload at hs
  simp only [inf_eq, und_eq, fun1_eq] at hs
  split at hs
  · rename_i b o
    obtain ⟨L, hL, rfl⟩ := hv.ptr_inv
    split at hs
    · rename_i xs ty hb
      split at hs
      · rename_i d i hu hi
        split at hs
        · rename_i hd
          split at hs
          · rename_i hle
            cases hs
            obtain ⟨ys, h1, h2, h3⟩ := h.cells hb hL o i.size (Nat.le_of_ble_eq_true hle)
            refine ⟨.agg ys.toArray, ?_, VR.agg_ h1⟩
            have hl := run_loadCells_list (P := P) W ⟨L.x, L.s + o, none⟩ ys h3
            rw [h2] at hl
            simp [Instr.loadAt, Instr.sureAddr, loadVar, Sem.run_bind, agg_get hu, hd, size_get hi, hl]
          · cases hs
        · rename_i hd
          have hlt := (List.getElem?_eq_some_iff.1 hs).1
          obtain ⟨ys, h1, h2, h3⟩ := h.cells hb hL o 1 (by omega)
          obtain ⟨u', a, c⟩ := h1.get (i := 0) (v := u) (by simp [hs])
          refine ⟨u', ?_, c⟩
          have hc := h3 0 u' a
          rw [add_plain] at hc
          simp only [Nat.add_zero] at hc
          simp [Instr.loadAt, Instr.sureAddr, loadVar, Sem.run_bind, agg_get hu, hd, hc]
      · cases hs
    · cases hs
  · cases hs

/-- Store. -/
def sstore (P : Program) (t : TypeId) (v x : Value) (H : Heap) : Option (Heap × List Nat) :=
  match v with
  | .pointer (some ⟨b, o, none⟩) => match hget H b with
    | some (.cells xs ty) => match inf P t with
      | some i => match Nat.beq x.cells.toList.length i.size, Nat.ble (o + x.cells.toList.length) xs.length, x.cells.toList.all (·.oneCell') with
        | true, true, true => some (hset H b (.cells (ovl xs o x.cells.toList) ty), [b])
        | _, _, _ => none
      | _ => none
    | _ => none
  | _ => none
theorem sstore_ok {n0 : Nat} {ρ : Rn} {H H' : Heap} {W : World} {t : TypeId} {v v' x x' : Value} {wr : List Nat} (hs : sstore P t v x H = some (H', wr)) (hv : VR ρ v v') (hx : VR ρ x x') (h : HR P n0 ρ H W) :
    ∃ W', (Instr.storeAt t v' x').run P W = .ok () W' ∧ Okay P n0 ρ H W H' wr ρ W' := by
  unfold sstore at hs
  simp only [inf_eq, und_eq, fun1_eq] at hs
  split at hs
  · rename_i b o
    obtain ⟨L, hL, rfl⟩ := hv.ptr_inv
    split at hs
    · rename_i xs ty hb
      split at hs
      · rename_i i hi
        split at hs
        · rename_i e1 e2 e3
          cases hs
          have hc := hx.cells
          obtain ⟨cs, g1, g2, g3⟩ := h.store hb hL (Nat.le_of_ble_eq_true e2) hc
          refine ⟨_, ?_, g3⟩
          have hst := run_storeCells_at P L.x (L.s + o) ty x'.cells.toList 0 cs W g1 (by simpa using g2) (hc.ones e3)
          have hsz : x'.cells.size = i.size := by
            have := hc.1
            have := (beq_of _ _).1 e1
            simp at *
            omega
          simp only [Nat.add_zero] at hst
          simp [Instr.storeAt, Instr.sureAddr, storeVar, Sem.run_bind, size_get hi, hsz, hst]
        · cases hs
      · cases hs
    · cases hs
  · cases hs

/-- A new variable. -/
def snew (nm : Nat) (t : TypeId) (xs : List Value) (H : Heap) : Option Heap :=
  match hget H nm with
  | none => some (hins H nm (.cells xs t))
  | some _ => none
theorem snew_ok {n0 : Nat} {ρ : Rn} {H H' : Heap} {W : World} {nm : Nat} {t : TypeId} {xs ys : List Value} (hs : snew nm t xs H = some H') (hx : LR ρ xs ys) (h : HR P n0 ρ H W) (h0 : n0 ≤ W.heap.size) (more : List Value) :
    ∃ ρ', ρ' nm = some ⟨W.heap.size, 0, ys.length + more.length, szOf P t⟩ ∧ Okay P n0 ρ H W H' [] ρ' (W.alloc (.cells (ys ++ more).toArray t)) := by
  unfold snew at hs
  split at hs
  · rename_i hn
    cases hs
    exact h.alloc_cells h0 hn hx t more
  · cases hs
theorem newVar_run (t : TypeId) (v : Value) (W : World) : (newVar t v).run P W = .ok ⟨W.heap.size, 0, none⟩ (W.alloc (.cells v.cells t)) := by
  simp [newVar, newRow]
theorem box_ok {n0 : Nat} {ρ : Rn} {H H' : Heap} {W : World} {nm : Nat} {t : TypeId} {v v' : Value} (hs : snew nm t v.cells.toList H = some H') (hv : VR ρ v v') (h : HR P n0 ρ H W) (h0 : n0 ≤ W.heap.size) :
    ∃ ρ' W', (Instr.box t v').run P W = .ok (.pointer (some ⟨W.heap.size, 0, none⟩)) W' ∧ VR ρ' (.pointer (some ⟨nm, 0, none⟩)) (.pointer (some ⟨W.heap.size, 0, none⟩)) ∧ Okay P n0 ρ H W H' [] ρ' W' := by
  obtain ⟨ρ', h1, h2⟩ := snew_ok hs hv.cells h h0 []
  refine ⟨ρ', _, ?_, ?_, h2⟩
  · simp [Instr.box, newVar_run]
  · have := VR.ptr (o := 0) h1
    simpa using this
theorem alloc_ok {n0 : Nat} {ρ : Rn} {H H' : Heap} {W : World} {nm : Nat} {t : TypeId} {i : TypeInfo} {z : Value} (hi : P.info? t = some i) (hz : i.zero = some z) (hl : isLit z = true) (hs : snew nm t z.cells.toList H = some H') (h : HR P n0 ρ H W) (h0 : n0 ≤ W.heap.size) :
    ∃ ρ' W', (Instr.alloc t true (.tuple #[])).run P W = .ok (.pointer (some ⟨W.heap.size, 0, none⟩)) W' ∧ VR ρ' (.pointer (some ⟨nm, 0, none⟩)) (.pointer (some ⟨W.heap.size, 0, none⟩)) ∧ Okay P n0 ρ H W H' [] ρ' W' := by
  obtain ⟨ρ', h1, h2⟩ := snew_ok hs (VR.lit hl : VR ρ z z).cells h h0 []
  refine ⟨ρ', _, ?_, ?_, h2⟩
  · simp [Instr.alloc, Sem.run_bind, zero_get hi hz, newVar_run]
  · have := VR.ptr (o := 0) h1
    simpa using this

/-- Addresses of fields and elements. -/
def sfield (P : Program) (s : TypeId) (v : Value) (f : Nat) : Option Value :=
  match v with
  | .pointer (some ⟨b, o, none⟩) => match und P s with
    | some (.struct fs) => match fs[f]? with
      | some fd => match inf P fd.type with
        | some i => match Nat.beq i.size 0 with
          | false => some (.pointer (some ⟨b, o + fd.offset, none⟩))
          | true => none
        | none => none
      | none => none
    | _ => none
  | _ => none
theorem sfield_ok {ρ : Rn} {s : TypeId} {v v' u : Value} {f : Nat} (hs : sfield P s v f = some u) (hv : VR ρ v v') : ∃ u', (∀ W : World, (Instr.fieldAt s v' f).run P W = .ok u' W) ∧ VR ρ u u' := by
  unfold sfield at hs
  simp only [inf_eq, und_eq, fun1_eq] at hs
  split at hs
  · rename_i b o
    obtain ⟨L, hL, rfl⟩ := hv.ptr_inv
    split at hs
    · rename_i fs hu
      split at hs
      · rename_i fd hf
        split at hs
        · rename_i i hi
          split at hs
          · rename_i h0
            cases hs
            refine ⟨.pointer (some ⟨L.x, L.s + (o + fd.offset), none⟩), fun W => ?_, .ptr hL⟩
            have hne : ¬ i.size = 0 := fun e => by rw [e] at h0; cases h0
            simp [Instr.fieldAt, Instr.sureAddr, fieldPlace, Sem.run_bind, run_underlying hu, hf, size_get hi, hne, add_plain, Nat.add_assoc]
          · cases hs
        · cases hs
      · cases hs
    · cases hs
  · cases hs
def sindex (P : Program) (t : TypeId) (v ix : Value) : Option Value :=
  match ix with
  | .int _ i => match und P t, v with
    | some (.array len e), .pointer (some ⟨b, o, none⟩) => match inf P e, decide (0 ≤ i ∧ i < len) with
      | some fi, true => some (.pointer (some ⟨b, o + i.toNat * fi.size, none⟩))
      | _, _ => none
    | some (.slice e), .slice (some ⟨b, o, none⟩) len _ => match inf P e, decide (0 ≤ i ∧ i < len) with
      | some fi, true => some (.pointer (some ⟨b, o + i.toNat * fi.size, none⟩))
      | _, _ => none
    | _, _ => none
  | _ => none
theorem sindex_ok {ρ : Rn} {t : TypeId} {v v' ix ix' u : Value} (hs : sindex P t v ix = some u) (hv : VR ρ v v') (hx : VR ρ ix ix') : ∃ u', (∀ W : World, (Instr.indexAt t v' ix').run P W = .ok u' W) ∧ VR ρ u u' := by
  unfold sindex at hs
  simp only [inf_eq, und_eq, fun1_eq] at hs
  split at hs
  · rename_i k i
    have := hx.int_inv
    subst this
    split at hs
    · rename_i len e b o hu
      obtain ⟨L, hL, rfl⟩ := hv.ptr_inv
      split at hs
      · rename_i fi hi hd
        cases hs
        have hd := of_decide_eq_true hd
        refine ⟨.pointer (some ⟨L.x, L.s + (o + i.toNat * fi.size), none⟩), fun W => ?_, .ptr hL⟩
        simp [Instr.indexAt, asIntOf, Instr.sureAddr, Sem.run_bind, run_underlying hu, size_get hi, hd, add_plain, Nat.add_assoc]
      · cases hs
    · rename_i e b o len c hu
      obtain ⟨L, hL, c', rfl, -⟩ := hv.slice_inv
      split at hs
      · rename_i fi hi hd
        cases hs
        have hd := of_decide_eq_true hd
        refine ⟨.pointer (some ⟨L.x, L.s + (o + i.toNat * fi.size), none⟩), fun W => ?_, .ptr hL⟩
        simp [Instr.indexAt, asIntOf, Sem.run_bind, run_underlying hu, size_get hi, hd, add_plain, Nat.add_assoc]
      · cases hs
    · cases hs
  · cases hs

end
end Go.Proofs.Ytmcefodfppdajaa.Sim

/- Symbolic run of single operations: slices, rows, append, copy. No program is named here. -/
set_option linter.unusedSimpArgs false
namespace Go.Proofs.Ytmcefodfppdajaa.Sim
open Go Go.RowKit Go.WideShapes

noncomputable section
variable {P : Program}
/-- A bound that is a number. -/
def bnd : Option Value → Nat → Nat → Option Nat
  | none, d, _ => some d
  | some (.int _ i), _, y => match decide (0 ≤ i ∧ i ≤ y) with
    | true => some i.toNat
    | false => none
  | _, _, _ => none
theorem bnd_run {x : Value} {y n : Nat} {code : BoundsCode} (h : bnd (some x) 0 y = some n) (W : World) : (Instr.sliceBound x y code).run P W = .ok n W ∧ n ≤ y := by
  unfold bnd at h
  split at h
  · rename_i e; cases e
  · rename_i k i e
    cases e
    split at h
    · rename_i hd
      have hd := of_decide_eq_true hd
      cases h
      exact ⟨by simp [Instr.sliceBound, asIntOf, hd], by omega⟩
    · cases h
  · cases h
/-- A part of a slice (no third bound). -/
def sslice (P : Program) (t : TypeId) (v : Value) (lo hi : Option Value) : Option Value :=
  match und P t, v with
  | some (.slice e), .slice (some ⟨b, o, none⟩) n c => match inf P e, Nat.ble UNK c with
    | some fi, false => match bnd hi n c, Nat.ble n c, Nat.ble (c + 1) UNK with
      | some h, true, true => match bnd lo 0 h with
        | some l => some (.slice (some ⟨b, o + (if c = l then 0 else l * fi.size), none⟩) (h - l) (c - l))
        | none => none
      | _, _, _ => none
    | some fi, true => match Nat.beq c (UNK + fi.size) with
      | true => match bnd hi n n with
        | some h => match bnd lo 0 h with
          | some l => match Nat.beq l 0 with
            | true => some (.slice (some ⟨b, o, none⟩) h (UNK + fi.size))
            | false => match Nat.ble (l + 1) n with
              | true => some (.slice (some ⟨b, o + l * fi.size, none⟩) (h - l) (UNK + fi.size))
              | false => match Nat.beq l h with
                | true => some (.slice (some ⟨b, o, some l⟩) 0 (UNK + fi.size))
                | false => none
          | none => none
        | none => none
      | false => none
    | _, _ => none
  | some (.array n e), .pointer (some ⟨b, o, none⟩) => match inf P e, bnd hi n n, Nat.ble (n + 1) UNK with
    | some fi, some h, true => match bnd lo 0 h with
      | some l => some (.slice (some ⟨b, o + (if n = l then 0 else l * fi.size), none⟩) (h - l) (n - l))
      | none => none
    | _, _, _ => none
  | _, _ => none
theorem bnd_up {x : Value} {d n c h : Nat} (hb : bnd (some x) d n = some h) (hc : n ≤ c) : bnd (some x) 0 c = some h := by
  cases x with
  | int k i =>
    simp only [bnd] at hb ⊢
    split at hb
    · rename_i hd
      have hd := of_decide_eq_true hd
      rw [decide_eq_true (show 0 ≤ i ∧ i ≤ (c : Int) from ⟨hd.1, by omega⟩)]
      exact hb
    · cases hb
  | _ => simp [bnd] at hb
theorem bounds_run {isS : Bool} {n m c h l : Nat} {lo hi : Option Value} (hhi : bnd hi n m = some h) (hlo : bnd lo 0 h = some l) (hn : n ≤ m) (hc : m ≤ c) (W : World) :
    (Instr.sliceBounds isS n c lo hi none).run P W = .ok (l, h, c) W ∧ l ≤ h ∧ h ≤ m := by
  have hh : h ≤ m := by
    cases hi with
    | none => simp [bnd] at hhi; omega
    | some x => exact (bnd_run (P := P) (code := .sliceB) (bnd_up hhi (Nat.le_refl _)) W).2
  have hl : l ≤ h := by
    cases lo with
    | none => simp [bnd] at hlo; omega
    | some x => exact (bnd_run (P := P) (code := .sliceB) hlo W).2
  refine ⟨?_, hl, hh⟩
  unfold Instr.sliceBounds
  cases hi with
  | none =>
    simp [bnd] at hhi
    subst hhi
    cases lo with
    | none => simp [bnd] at hlo; subst hlo; simp
    | some y => simp [(bnd_run (P := P) hlo W).1]
  | some x =>
    have hb := bnd_up hhi hc
    cases lo with
    | none => simp [bnd] at hlo; subst hlo; simp [(bnd_run (P := P) hb W).1]
    | some y => simp [(bnd_run (P := P) hb W).1, (bnd_run (P := P) hlo W).1]
theorem sslice_ok {ρ : Rn} {t : TypeId} {v v' u : Value} {lo hi : Option Value} (hs : sslice P t v lo hi = some u) (hv : VR ρ v v') : ∃ u', (∀ W : World, (Instr.sliceAt t v' lo hi none).run P W = .ok u' W) ∧ VR ρ u u' := by
  unfold sslice at hs
  simp only [inf_eq, und_eq, fun1_eq] at hs
  split at hs
  · rename_i e b o n c hu
    obtain ⟨L, hL, c', rfl, hc⟩ := hv.slice_inv
    split at hs
    · rename_i fi hfi hcu
      have hcu : c < UNK := Nat.lt_of_not_le fun e => by rw [Nat.ble_eq_true_of_le e] at hcu; cases hcu
      obtain ⟨-, rfl⟩ := hc.resolve_right (fun hh => Nat.not_le.2 hcu hh.1)
      split at hs
      · rename_i h hhi hnc hlt
        have hlt := Nat.le_of_ble_eq_true hlt
        split at hs
        · rename_i l hlo
          cases hs
          have hb := fun W => (bounds_run (P := P) (isS := true) hhi hlo (Nat.le_of_ble_eq_true hnc) (Nat.le_refl _) W).1
          obtain ⟨-, hlh, hhm⟩ := bounds_run (P := P) (isS := true) hhi hlo (Nat.le_of_ble_eq_true hnc) (Nat.le_refl _) default
          refine ⟨.slice (some ⟨L.x, L.s + (o + if c' = l then 0 else l * fi.size), none⟩) (h - l) (c' - l), fun W => ?_, .slice hL (by omega)⟩
          by_cases hcl : c' = l
          · subst hcl
            simp [Instr.sliceAt, Instr.slice, run_underlying hu, hb, size_get hfi]
          · simp [Instr.sliceAt, Instr.slice, run_underlying hu, hb, size_get hfi, hcl, add_plain, Nat.add_assoc]
        · cases hs
      · cases hs
    · rename_i fi hfi hcu
      have hcu := Nat.le_of_ble_eq_true hcu
      obtain ⟨-, q0, q1, q2, q3⟩ := hc.resolve_left (fun hh => Nat.not_le.2 hh.1 hcu)
      split at hs
      · rename_i hcz
        have hcz := (beq_of _ _).1 hcz
        have hz : L.sz = fi.size := by omega
        rw [hz] at q3
        split at hs
        · rename_i h hhi
          split at hs
          · rename_i l hlo
            split at hs
            · rename_i hl0
              have hl0 := (beq_of _ _).1 hl0
              subst hl0
              cases hs
              have hb := fun W => (bounds_run (P := P) (isS := true) hhi hlo (Nat.le_refl _) q1 W).1
              obtain ⟨-, -, hhn⟩ := bounds_run (P := P) (isS := true) hhi hlo (Nat.le_refl _) q1 default
              refine ⟨.slice (some ⟨L.x, L.s + o, none⟩) h c', fun W => ?_, .sliceU hL hz (by omega) q2 q3⟩
              simp [Instr.sliceAt, Instr.slice, run_underlying hu, hb, size_get hfi, add_plain]
            · split at hs
              · rename_i hln
                have hln := Nat.le_of_ble_eq_true hln
                cases hs
                have hb := fun W => (bounds_run (P := P) (isS := true) hhi hlo (Nat.le_refl _) q1 W).1
                obtain ⟨-, hlh, hhn⟩ := bounds_run (P := P) (isS := true) hhi hlo (Nat.le_refl _) q1 default
                have hcl : ¬ c' = l := by omega
                refine ⟨.slice (some ⟨L.x, L.s + (o + l * fi.size), none⟩) (h - l) (c' - l), fun W => ?_, ?_⟩
                · simp [Instr.sliceAt, Instr.slice, run_underlying hu, hb, size_get hfi, hcl, add_plain, Nat.add_assoc]
                · refine .sliceU hL hz (by omega) (by omega) ?_
                  have : l * fi.size + (c' - l) * fi.size = c' * fi.size := by rw [← Nat.add_mul, Nat.add_sub_cancel' (by omega)]
                  omega
              · split at hs
                · rename_i hlh0
                  have hlh0 := (beq_of _ _).1 hlh0
                  subst hlh0
                  cases hs
                  have hb := fun W => (bounds_run (P := P) (isS := true) hhi hlo (Nat.le_refl _) q1 W).1
                  refine ⟨.slice (some ⟨L.x, L.s + (o + if c' = l then 0 else l * fi.size), none⟩) 0 (c' - l), fun W => ?_, .sliceE⟩
                  by_cases hcl : c' = l
                  · subst hcl
                    simp [Instr.sliceAt, Instr.slice, run_underlying hu, hb, size_get hfi, add_plain]
                  · simp [Instr.sliceAt, Instr.slice, run_underlying hu, hb, size_get hfi, hcl, add_plain, Nat.add_assoc]
                · cases hs
          · cases hs
        · cases hs
      · cases hs
    · cases hs
  · rename_i n e b o hu
    obtain ⟨L, hL, rfl⟩ := hv.ptr_inv
    split at hs
    · rename_i fi h hfi hhi hlt
      have hlt := Nat.le_of_ble_eq_true hlt
      split at hs
      · rename_i l hlo
        cases hs
        have hb := fun W => (bounds_run (P := P) (isS := false) hhi hlo (Nat.le_refl _) (Nat.le_refl _) W).1
        obtain ⟨-, hlh, hhm⟩ := bounds_run (P := P) (isS := false) hhi hlo (Nat.le_refl _) (Nat.le_refl _) default
        refine ⟨.slice (some ⟨L.x, L.s + (o + if n = l then 0 else l * fi.size), none⟩) (h - l) (n - l), fun W => ?_, .slice hL (by omega)⟩
        by_cases hcl : n = l
        · subst hcl
          simp [Instr.sliceAt, Instr.sureAddr, run_underlying hu, hb, size_get hfi]
        · simp [Instr.sliceAt, Instr.sureAddr, run_underlying hu, hb, size_get hfi, hcl, add_plain, Nat.add_assoc]
      · cases hs
    · cases hs
  · cases hs

/-- A row that is made. -/
def smake (P : Program) (nm : Nat) (t : TypeId) (l c : Value) (H : Heap) : Option (Value × Heap) :=
  match und P t, l, c with
  | some (.slice e), .int _ ln, .int _ cp => match inf P e with
    | some i => match i.zero with
      | some z => match decide (0 ≤ ln ∧ ln ≤ cp ∧ cp ≤ 1000000 ∧ i.bytes * cp ≤ 281474976710656), isLit z with
        | true, true => match snew nm e ((Array.range (cp.toNat * i.size)).map ((if cp.toNat * i.size = 0 then #[] else z.cells)[· % (if cp.toNat * i.size = 0 then #[] else z.cells).size]!)).toList H with
          | some H' => some (.slice (some ⟨nm, 0, none⟩) ln.toNat cp.toNat, H')
          | none => none
        | _, _ => none
      | none => none
    | none => none
  | _, _, _ => none
theorem lit_cells {z : Value} (h : isLit z = true) : z.cells.toList.all isLit = true := by
  rw [List.all_eq_true]
  intro x hx
  cases z <;> first
    | (simp [Value.cells] at hx; subst hx; exact h)
    | (rename_i cs; exact isLit_of_cell (List.all_eq_true.1 (show cs.toList.all cellLit = true from h) x hx))
theorem smake_ok {n0 : Nat} {ρ : Rn} {H H' : Heap} {W : World} {nm : Nat} {t : TypeId} {l c l' c' u : Value} (hs : smake P nm t l c H = some (u, H')) (hl : VR ρ l l') (hc : VR ρ c c') (h : HR P n0 ρ H W) (h0 : n0 ≤ W.heap.size) :
    ∃ ρ' W' u', (Instr.makeSlice t l' c').run P W = .ok u' W' ∧ VR ρ' u u' ∧ Okay P n0 ρ H W H' [] ρ' W' := by
  unfold smake at hs
  simp only [inf_eq, und_eq, fun1_eq] at hs
  split at hs
  · rename_i e k1 ln k2 cp hu
    have := hl.int_inv
    subst this
    have := hc.int_inv
    subst this
    split at hs
    · rename_i i hi
      split at hs
      · rename_i z hz
        split at hs
        · rename_i hd hzl
          have hd := of_decide_eq_true hd
          split at hs
          · rename_i H2 hn
            cases hs
            obtain ⟨ρ', g1, g2⟩ := snew_ok hn (LR.lits (ρ := ρ) (by
              rw [List.all_eq_true]
              intro x hx
              obtain ⟨j, hj, rfl⟩ := Array.mem_map.1 (Array.mem_toList_iff.1 hx)
              have hj : j < cp.toNat * i.size := by simpa using hj
              have hne : ¬ cp.toNat * i.size = 0 := by omega
              simp only [hne, if_false]
              by_cases hz0 : j % z.cells.size < z.cells.size
              · rw [getElem!_pos z.cells (j % z.cells.size) hz0]
                exact List.all_eq_true.1 (lit_cells hzl) _ (by simp)
              · rw [getElem!_neg z.cells (j % z.cells.size) hz0]
                rfl)) h h0 []
            rw [List.append_nil, Array.toArray_toList] at g2
            refine ⟨ρ', _, .slice (some ⟨W.heap.size, 0, none⟩) ln.toNat cp.toNat, ?_, ?_, g2⟩
            · have w1 : IntKind.i64.wrap ln = ln := by simp [IntKind.wrap, IntKind.bits, IntKind.signed]; omega
              have w2 : IntKind.i64.wrap cp = cp := by simp [IntKind.wrap, IntKind.bits, IntKind.signed]; omega
              have e1 : ¬ ln < 0 := by omega
              have e2 : ¬ cp < 0 := by omega
              have e3 : ¬ cp < ln := by omega
              have e4 : ¬ 281474976710656 < (i.bytes : Int) * cp := by omega
              by_cases hz0 : cp.toNat * i.size = 0
              · simp [Instr.makeSlice, asInt, asIntOf, run_underlying hu, info_get hi, size_get hi, w1, w2, e1, e2, e3, e4, hz0, newRow]
              · simp [Instr.makeSlice, asInt, asIntOf, run_underlying hu, info_get hi, size_get hi, zero_get hi hz, w1, w2, e1, e2, e3, e4, hz0, newRow]
            · have := VR.slice (o := 0) (n := ln.toNat) (c := cp.toNat) g1 (by unfold UNK; omega)
              simpa using this
          · cases hs
        · cases hs
      · cases hs
    · cases hs
  · cases hs

end
end Go.Proofs.Ytmcefodfppdajaa.Sim

/- Symbolic run of single operations: composite values, append, copy. No program is named here. -/
set_option linter.unusedSimpArgs false
namespace Go.Proofs.Ytmcefodfppdajaa.Sim
open Go Go.RowKit Go.WideShapes

noncomputable section
variable {P : Program}
def put1 (off : Nat) : List Value → Nat → List Value → List Value
  | [], _, cs => cs
  | v :: r, j, cs => put1 off r (j + 1) (cs.set (off + j) v)
theorem put1_eq (off : Nat) : ∀ (vs : List Value) (j : Nat) (cs : Array Value), ((vs.zipIdx j).foldl (fun cs (c, j) => cs.setIfInBounds (off + j) c) cs).toList = put1 off vs j cs.toList
  | [], _, _ => rfl
  | v :: r, j, cs => by
    simp only [List.zipIdx_cons, List.foldl_cons, put1]
    rw [put1_eq off r (j + 1)]
    simp
theorem put1_rel {ρ : Rn} (off : Nat) : ∀ {vs vs' : List Value} (j : Nat) {cs cs' : List Value}, LR ρ vs vs' → LR ρ cs cs' → LR ρ (put1 off vs j cs) (put1 off vs' j cs')
  | [], [], _, _, _, _, h => h
  | v :: r, v' :: r', j, _, _, hv, h => by
    refine put1_rel off (j + 1) ⟨by have := hv.1; simp at this; exact this, fun i a b x y => hv.2 (i + 1) a b (by simpa using x) (by simpa using y)⟩ (h.set (off + j) (hv.2 0 v v' rfl rfl))
  | [], _ :: _, _, _, _, hv, _ => by have := hv.1; simp at this
  | _ :: _, [], _, _, _, hv, _ => by have := hv.1; simp at this
theorem put1_length (off : Nat) : ∀ (vs : List Value) (j : Nat) (cs : List Value), (put1 off vs j cs).length = cs.length
  | [], _, _ => rfl
  | v :: r, j, cs => by simp only [put1]; rw [put1_length off r (j + 1)]; simp
/-- Parts filled in. -/
def sfill (place : Nat → Option (Nat × Nat)) (cs : List Value) : List (Nat × Value) → Option (List Value)
  | [] => some cs
  | (i, v) :: r => match place i with
    | none => none
    | some (off, size) => match Nat.beq v.cells.toList.length size && Nat.ble (off + v.cells.toList.length) cs.length with
      | true => sfill place (put1 off v.cells.toList 0 cs) r
      | false => none
def PR (ρ : Rn) : List (Nat × Value) → List (Nat × Value) → Prop
  | [], [] => True
  | (i, v) :: r, (j, u) :: s => i = j ∧ VR ρ v u ∧ PR ρ r s
  | _, _ => False
theorem sfill_ok {ρ : Rn} (place : Nat → Option (Nat × Nat)) : ∀ {ps qs : List (Nat × Value)} {cs out : List Value} {ds : Array Value}, PR ρ ps qs → LR ρ cs ds.toList → sfill place cs ps = some out → ∃ es : Array Value, Instr.fill place ds qs = some es ∧ LR ρ out es.toList
  | [], [], cs, out, ds, _, h, hs => by
    simp only [sfill, Option.some.injEq] at hs
    subst hs
    exact ⟨ds, rfl, h⟩
  | (i, v) :: r, (j, u) :: s, cs, out, ds, hp, h, hs => by
    obtain ⟨rfl, hv, hr⟩ := hp
    simp only [sfill] at hs
    cases hpl : place i with
    | none => rw [hpl] at hs; cases hs
    | some p =>
      obtain ⟨off, size⟩ := p
      rw [hpl] at hs
      simp only at hs
      split at hs
      · rename_i hc
        simp only [Bool.and_eq_true] at hc
        have c1 := (beq_of _ _).1 hc.1
        have c2 := Nat.le_of_ble_eq_true hc.2
        have hvc := hv.cells
        have l1 := hvc.1
        have l2 := h.1
        have e1 : u.cells.size = size := by simp at l1 c1; omega
        have e2 : ¬ off + u.cells.size > ds.size := by simp at l1 l2 c1 c2; omega
        have hfold : LR ρ (put1 off v.cells.toList 0 cs) (u.cells.zipIdx.foldl (fun cs (c, j) => cs.setIfInBounds (off + j) c) ds).toList := by
          have := put1_eq off u.cells.toList 0 ds
          rw [← Array.foldl_toList, Array.toList_zipIdx, this]
          exact put1_rel off 0 hvc h
        obtain ⟨es, k1, k2⟩ := sfill_ok place hr hfold hs
        refine ⟨es, ?_, k2⟩
        simp only [Instr.fill, hpl]
        rw [if_neg (by simp [e1]; omega)]
        exact k1
      · cases hs
  | [], _ :: _, _, _, _, hp, _, _ => hp.elim
  | _ :: _, [], _, _, _, hp, _, _ => hp.elim

def fplaces (P : Program) : List Field → Option (List (Nat × Nat))
  | [] => some []
  | f :: r => match inf P f.type, fplaces P r with
    | some i, some l => some ((f.offset, i.size) :: l)
    | _, _ => none
theorem fplaces_run : ∀ {fs : List Field} {l : List (Nat × Nat)} (_ : fplaces P fs = some l) (W : World), (List.mapM (m := Sem) (fun (f : Field) => Prod.mk f.offset <$> sizeOf f.type) fs).run P W = .ok l W
  | [], l, h, W => by simp only [fplaces, Option.some.injEq] at h; subst h; rfl
  | f :: r, l, h, W => by
    simp only [fplaces, inf_eq] at h
    split at h
    · rename_i i l' hi hl
      cases h
      simp [List.mapM_cons, size_get hi, fplaces_run hl W]
    · cases h
def sbuild (P : Program) (t : TypeId) (ps : List (Nat × Value)) : Option Value :=
  match inf P t, und P t with
  | some i, some (.struct fs) => match i.zero, fplaces P fs.toList with
    | some z, some l => match isLit z, sfill (fun k => l[k]?) z.cells.toList ps with
      | true, some out => some (.agg out.toArray)
      | _, _ => none
    | _, _ => none
  | some i, some (.array _ e) => match i.zero, inf P e with
    | some z, some ei => match isLit z, sfill (fun k => some (k * ei.size, ei.size)) z.cells.toList ps with
      | true, some out => some (.agg out.toArray)
      | _, _ => none
    | _, _ => none
  | _, _ => none
theorem sbuild_ok {ρ : Rn} {t : TypeId} {ps : List (Nat × Value)} {qs : Array (Nat × Value)} {u : Value} (hs : sbuild P t ps = some u) (hp : PR ρ ps qs.toList) : ∃ u', (∀ W : World, (Instr.build t qs).run P W = .ok u' W) ∧ VR ρ u u' := by
  unfold sbuild at hs
  simp only [inf_eq, und_eq, fun1_eq] at hs
  split at hs
  · rename_i i fs hi hu
    split at hs
    · rename_i z l hz hl
      split at hs
      · rename_i out hzl hf
        cases hs
        obtain ⟨es, k1, k2⟩ := sfill_ok _ hp (VR.lit (ρ := ρ) hzl).cells hf
        refine ⟨.agg es, fun W => ?_, by simpa using VR.agg_ k2⟩
        have hm : (Array.mapM (m := Sem) (fun (f : Field) => Prod.mk f.offset <$> sizeOf f.type) fs).run P W = .ok l.toArray W := by
          rw [← Array.toArray_toList (xs := fs), List.mapM_toArray, map_eq_pure_bind, Sem.run_bind, fplaces_run hl W]
          rfl
        simp [Instr.build, zero_get hi hz, run_underlying hu, hm, k1]
      · cases hs
    · cases hs
  · rename_i i n e hi hu
    split at hs
    · rename_i z ei hz he
      split at hs
      · rename_i out hzl hf
        cases hs
        obtain ⟨es, k1, k2⟩ := sfill_ok _ hp (VR.lit (ρ := ρ) hzl).cells hf
        refine ⟨.agg es, fun W => ?_, by simpa using VR.agg_ k2⟩
        simp [Instr.build, zero_get hi hz, run_underlying hu, size_get he, k1]
      · cases hs
    · cases hs
  · cases hs

end
end Go.Proofs.Ytmcefodfppdajaa.Sim

/- Symbolic run of single operations: rows written out, parts of values, append, copy. No program is named here. -/
set_option linter.unusedSimpArgs false
namespace Go.Proofs.Ytmcefodfppdajaa.Sim
open Go Go.RowKit Go.WideShapes

noncomputable section
variable {P : Program}
def szeros (z : Value) (n : Nat) : List Value := ((Array.range n).map ((if n = 0 then #[] else z.cells)[· % (if n = 0 then #[] else z.cells).size]!)).toList
theorem szeros_lit {ρ : Rn} {z : Value} (h : isLit z = true) (n : Nat) : LR ρ (szeros z n) (szeros z n) := LR.lits (by
  rw [List.all_eq_true]
  intro x hx
  obtain ⟨j, hj, rfl⟩ := Array.mem_map.1 (Array.mem_toList_iff.1 hx)
  have hj : j < n := by simpa using hj
  have hne : ¬ n = 0 := by omega
  simp only [hne, if_false]
  by_cases hz0 : j % z.cells.size < z.cells.size
  · rw [getElem!_pos z.cells (j % z.cells.size) hz0]
    exact List.all_eq_true.1 (lit_cells h) _ (by simp)
  · rw [getElem!_neg z.cells (j % z.cells.size) hz0]
    rfl)
def sbslice (P : Program) (nm : Nat) (t : TypeId) (len : Nat) (ps : List (Nat × Value)) (H : Heap) : Option (Value × Heap) :=
  match und P t with
  | some (.slice e) => match inf P e with
    | some i => match i.zero with
      | some z => match isLit z, Nat.ble (len * i.size) 16777216, Nat.ble (len + 1) UNK, sfill (fun k => some (k * i.size, i.size)) (szeros z (len * i.size)) ps with
        | true, true, true, some out => match snew nm e out H with
          | some H' => some (.slice (some ⟨nm, 0, none⟩) len len, H')
          | none => none
        | _, _, _, _ => none
      | none => none
    | none => none
  | _ => none
theorem sbslice_ok {n0 : Nat} {ρ : Rn} {H H' : Heap} {W : World} {nm : Nat} {t : TypeId} {len : Nat} {ps : List (Nat × Value)} {qs : Array (Nat × Value)} {u : Value} (hs : sbslice P nm t len ps H = some (u, H')) (hp : PR ρ ps qs.toList) (h : HR P n0 ρ H W) (h0 : n0 ≤ W.heap.size) :
    ∃ ρ' W' u', (Instr.buildSlice t len qs).run P W = .ok u' W' ∧ VR ρ' u u' ∧ Okay P n0 ρ H W H' [] ρ' W' := by
  unfold sbslice at hs
  simp only [inf_eq, und_eq, fun1_eq] at hs
  split at hs
  · rename_i e hu
    split at hs
    · rename_i i hi
      split at hs
      · rename_i z hz
        split at hs
        · rename_i out hzl hle hlu hf
          split at hs
          · rename_i H2 hn
            cases hs
            obtain ⟨es, k1, k2⟩ := sfill_ok (ρ := ρ) (ds := (Array.range (len * i.size)).map ((if len * i.size = 0 then #[] else z.cells)[· % (if len * i.size = 0 then #[] else z.cells).size]!)) _ hp (szeros_lit hzl _) hf
            obtain ⟨ρ', g1, g2⟩ := snew_ok hn k2 h h0 []
            rw [List.append_nil, Array.toArray_toList] at g2
            refine ⟨ρ', _, .slice (some ⟨W.heap.size, 0, none⟩) len len, ?_, ?_, g2⟩
            · have e4 : ¬ 16777216 < len * i.size := by have := Nat.le_of_ble_eq_true hle; omega
              by_cases hz0 : len * i.size = 0
              · simp only [hz0, if_true] at k1
                simp [Instr.buildSlice, run_underlying hu, size_get hi, hz0, newRow]
                simp at k1
                simp [k1]
              · simp only [hz0, if_false] at k1
                simp [Instr.buildSlice, run_underlying hu, size_get hi, zero_get hi hz, e4, hz0, k1, newRow]
            · have := VR.slice (o := 0) (n := len) (c := len) g1 (by have := Nat.le_of_ble_eq_true hlu; omega)
              simpa using this
          · cases hs
        · cases hs
      · cases hs
    · cases hs
  · cases hs

/-- A part of a composite value. -/
def spart (P : Program) (t : TypeId) (cs : List Value) (off : Nat) : Option Value :=
  match und P t, inf P t with
  | some d, some i => match isAggD d with
    | true => some (.agg ((cs.drop off).take i.size).toArray)
    | false => cs[off]?
  | _, _ => none
theorem spart_ok {ρ : Rn} {t : TypeId} {cs : List Value} {ds : Array Value} {off : Nat} {u : Value} (hs : spart P t cs off = some u) (h : LR ρ cs ds.toList) : ∃ u', (∀ W : World, (part t ds off).run P W = .ok u' W) ∧ VR ρ u u' := by
  unfold spart at hs
  simp only [inf_eq, und_eq, fun1_eq] at hs
  split at hs
  · rename_i d i hu hi
    split at hs
    · rename_i hd
      cases hs
      refine ⟨.agg (ds.extract off (off + i.size)), fun W => ?_, ?_⟩
      · simp [part, agg_get hu, hd, size_get hi]
      · have := VR.agg_ ((h.drop off).take i.size)
        have e : (List.take i.size (List.drop off ds.toList)).toArray = ds.extract off (off + i.size) := by
          apply Array.ext'
          simp
        rw [← e]
        exact this
    · rename_i hd
      obtain ⟨u', a, b⟩ := h.get hs
      refine ⟨u', fun W => ?_, b⟩
      rw [Array.getElem?_toList] at a
      simp [part, agg_get hu, hd, a]
  · cases hs
def sgetf (P : Program) (t : TypeId) (v : Value) (f : Nat) : Option Value :=
  match und P t, v with
  | some (.struct fs), .agg cs => match fs[f]? with
    | some fd => spart P fd.type cs.toList fd.offset
    | none => none
  | _, _ => none
theorem sgetf_ok {ρ : Rn} {t : TypeId} {v v' u : Value} {f : Nat} (hs : sgetf P t v f = some u) (hv : VR ρ v v') : ∃ u', (∀ W : World, (Instr.field t v' f).run P W = .ok u' W) ∧ VR ρ u u' := by
  unfold sgetf at hs
  simp only [inf_eq, und_eq, fun1_eq] at hs
  split at hs
  · rename_i fs cs hu
    obtain ⟨ds, rfl, hl⟩ := hv.agg_inv
    split at hs
    · rename_i fd hf
      obtain ⟨u', k1, k2⟩ := spart_ok hs hl
      exact ⟨u', fun W => by simp [Instr.field, run_underlying hu, hf, asAgg, k1], k2⟩
    · cases hs
  · cases hs
def sidx (P : Program) (t : TypeId) (v ix : Value) : Option Value :=
  match ix, und P t, v with
  | .int _ i, some (.array len e), .agg cs => match inf P e, decide (0 ≤ i ∧ i < len) with
    | some fi, true => spart P e cs.toList (i.toNat * fi.size)
    | _, _ => none
  | _, _, _ => none
theorem sidx_ok {ρ : Rn} {t : TypeId} {v v' ix ix' u : Value} (hs : sidx P t v ix = some u) (hv : VR ρ v v') (hx : VR ρ ix ix') : ∃ u', (∀ W : World, (Instr.index t v' ix').run P W = .ok u' W) ∧ VR ρ u u' := by
  unfold sidx at hs
  simp only [inf_eq, und_eq, fun1_eq] at hs
  split at hs
  · rename_i k i len e cs hu
    have := hx.int_inv
    subst this
    obtain ⟨ds, rfl, hl⟩ := hv.agg_inv
    split at hs
    · rename_i fi hi hd
      have hd := of_decide_eq_true hd
      obtain ⟨u', k1, k2⟩ := spart_ok hs hl
      exact ⟨u', fun W => by simp [Instr.index, asIntOf, run_underlying hu, hd, size_get hi, k1], k2⟩
    · cases hs
  · cases hs
def sextract (v : Value) (k : Nat) : Option Value :=
  match v with
  | .tuple vs => vs.toList[k]?
  | _ => none
theorem sextract_ok {ρ : Rn} {v v' u : Value} {k : Nat} (hs : sextract v k = some u) (hv : VR ρ v v') : ∃ u', (∀ W : World, (Instr.extract v' k).run P W = .ok u' W) ∧ VR ρ u u' := by
  unfold sextract at hs
  split at hs
  · obtain ⟨ds, rfl, hl⟩ := hv.tuple_inv
    obtain ⟨u', a, b⟩ := hl.get hs
    refine ⟨u', fun W => ?_, b⟩
    rw [Array.getElem?_toList] at a
    simp [Instr.extract, a]
  · cases hs

end
end Go.Proofs.Ytmcefodfppdajaa.Sim

/- Symbolic run of single operations: append, copy. No program is named here. -/
set_option linter.unusedSimpArgs false
namespace Go.Proofs.Ytmcefodfppdajaa.Sim
open Go Go.RowKit Go.WideShapes

noncomputable section
variable {P : Program}
def srcOf (P : Program) (tx : TypeId) (x : Value) (size : Nat) (H : Heap) : Option (Nat × List Value) :=
  match und P tx, x with
  | some (.slice _), .slice none 0 _ => some (0, [])
  | some (.slice _), .slice (some ⟨b, o, none⟩) n _ => match hget H b with
    | some (.cells xs _) => match Nat.ble (o + n * size) xs.length, ((xs.drop o).take (n * size)).all (·.oneCell') with
      | true, true => some (n, (xs.drop o).take (n * size))
      | _, _ => none
    | _ => none
  | some .string, .string s => match Nat.beq size 1 with
    | true => some (s.size, byteCells s)
    | false => none
  | _, _ => none
theorem srcOf_ok {n0 : Nat} {ρ : Rn} {H : Heap} {W : World} {tx : TypeId} {x x' : Value} {size n : Nat} {news : List Value} (hs : srcOf P tx x size H = some (n, news)) (hx : VR ρ x x') (h : HR P n0 ρ H W) :
    ∃ news', LR ρ news news' ∧ Src P size tx x' n news' W := by
  unfold srcOf at hs
  simp only [inf_eq, und_eq, fun1_eq] at hs
  split at hs
  · rename_i e' c hk
    cases hs
    have := hx.lit_eq rfl
    subst this
    exact ⟨[], LR.nil ρ, Src.ofNil W hk c⟩
  · rename_i e' b o n' c hk
    obtain ⟨L, hL, c', rfl, -⟩ := hx.slice_inv
    split at hs
    · rename_i xs ty hb
      split at hs
      · rename_i hle h1
        cases hs
        obtain ⟨ys, k1, k2, k3⟩ := h.cells hb hL o (n * size) (Nat.le_of_ble_eq_true hle)
        exact ⟨ys, k1, Src.ofSlice W hk _ n c' ys k2 k3 (k1.ones h1)⟩
      · cases hs
    · cases hs
  · rename_i s hk
    have := hx.lit_eq rfl
    subst this
    split at hs
    · rename_i h1
      have h1 := (beq_of _ _).1 h1
      subst h1
      cases hs
      refine ⟨byteCells s, LR.lits ?_, Src.ofString W hk s⟩
      rw [List.all_eq_true]
      intro v hv
      obtain ⟨b, -, rfl⟩ := List.mem_map.1 hv
      rfl
    · cases hs
  · cases hs
theorem app_room {W : World} {t tx ty e te : TypeId} {i : TypeInfo} (ht : P.underlying t = some (.slice e)) (hi : P.info? e = some i) {g off sLen sCap n : Nat} {cur : Array Value} (hg : W.heap[g]? = some (.cells cur te (0, 0))) {x : Value} {news : List Value}
    (hs : Src P i.size tx x n news W) (hroom : sLen + n ≤ sCap) (hfit : off + sLen * i.size + news.length ≤ cur.size) :
    (Builtin.append_ #[t, tx] ty #[.slice (some ⟨g, off, none⟩) sLen sCap, x]).run P W = .ok (.slice (some ⟨g, off, none⟩) (sLen + n) sCap)
      (W.setRow g (cur.toList.take (off + sLen * i.size) ++ news ++ cur.toList.drop (off + sLen * i.size + news.length)).toArray) := by
  have hst := run_storeCells_at P g (off + sLen * i.size) te news 0 cur W hg (by simpa using hfit) hs.one
  simp only [Nat.add_zero] at hst
  rcases hs.kind with ⟨e', hk⟩ | hk <;> simp [Builtin.append_, run_underlying ht, run_underlying hk, sizeOf, typeInfo, hi, hs.len, hroom, hs.cells, Addr.add_lit, hst]
theorem app_none {W : World} {t tx ty e : TypeId} {i : TypeInfo} (ht : P.underlying t = some (.slice e)) (hi : P.info? e = some i) {x : Value} {news : List Value} (hs : Src P i.size tx x 0 news W) :
    (Builtin.append_ #[t, tx] ty #[.slice none 0 0, x]).run P W = .ok (.slice none 0 0) W := by
  rcases hs.kind with ⟨e', hk⟩ | hk <;> simp [Builtin.append_, run_underlying ht, run_underlying hk, sizeOf, typeInfo, hi, hs.len, hs.cells]
theorem Okay.of_drew {n0 : Nat} {ρ ρ' : Rn} {H H' : Heap} {W W' : World} {wr : List Nat} (h : Okay P n0 ρ H W.drew H' wr ρ' W') : Okay P n0 ρ H W H' wr ρ' W' :=
  ⟨h.ext, h.hr, ⟨h.below.os, h.below.tape, h.below.output, h.below.size, h.below.block⟩, h.fr, h.fr1⟩
theorem grown_ge (W : World) (need old : Nat) (e : TypeId) : need ≤ grownCap W need old e := by
  simp only [grownCap, Question.cut]
  omega
/-- A new row behind an append. -/
def sgrow (P : Program) (nm : Nat) (e : TypeId) (olds news : List Value) (need : Nat) (H : Heap) : Option (Value × Heap) :=
  match inf P e with
  | some i => match i.zero with
    | some z => match Nat.beq z.cells.toList.length i.size, Nat.ble (need * i.bytes) 140737488355328, Nat.ble (need + 1) UNK, snew nm e (olds ++ news) H with
      | true, true, true, some H' => some (.slice (some ⟨nm, 0, none⟩) need (UNK + i.size), H')
      | _, _, _, _ => none
    | none => none
  | none => none
theorem sgrow_ok {n0 : Nat} {ρ : Rn} {H H' : Heap} {W : World} {nm : Nat} {t tx ty e : TypeId} {i : TypeInfo} {olds news olds' news' : List Value} {sLen sCap n : Nat} {base : Option Addr} {x' u : Value} (hs : sgrow P nm e olds news (sLen + n) H = some (u, H'))
    (ht : P.underlying t = some (.slice e)) (hi : P.info? e = some i) (ho : LR ρ olds olds') (hol : olds'.length = sLen * i.size) (hold : (Builtin.firstCells i.size sLen (.slice base sLen sCap)).run P W.drew = .ok olds'.toArray W.drew) (hn : LR ρ news news') (hsrc : Src P i.size tx x' n news' W)
    (hg : sCap < sLen + n) (h : HR P n0 ρ H W) (h0 : n0 ≤ W.heap.size) :
    ∃ ρ' W' u', (Builtin.append_ #[t, tx] ty #[.slice base sLen sCap, x']).run P W = .ok u' W' ∧ VR ρ' u u' ∧ Okay P n0 ρ H W H' [] ρ' W' := by
  unfold sgrow at hs
  simp only [inf_eq, und_eq, fun1_eq] at hs
  rw [hi] at hs
  simp only at hs
  split at hs
  · rename_i z hz
    split at hs
    · rename_i H2 e1 e2 e3 hnw
      cases hs
      have e1 := (beq_of _ _).1 e1
      have e2 := Nat.le_of_ble_eq_true e2
      have e3 := Nat.le_of_ble_eq_true e3
      have hunk : UNK = 9223372036854775808 := rfl
      have hrun := run_append_grow_src (P := P) W t tx ty e i z ht hi hz base sLen sCap olds' hold x' n news' hsrc hg (by omega) (growslice_fits hg e2)
      obtain ⟨ρ', g1, g2⟩ := snew_ok (W := W.drew) hnw (ho.append hn) h.drew h0 (Builtin.zeroCells z.cells (grownCap W (sLen + n) sCap e - (sLen + n))).toList
      have hge := grown_ge W (sLen + n) sCap e
      have hle := grownCap_le_maxLen W (sLen + n) sCap e (by simp only [maxLen]; omega)
      refine ⟨ρ', _, _, hrun, ?_, ?_⟩
      · have hzs : z.cells.size = i.size := by simpa using e1
        have := VR.sliceU (o := 0) (n := sLen + n) (c' := grownCap W (sLen + n) sCap e) g1 (szOf_eq hi) hge (by simp only [maxLen] at hle; omega) (by
          simp only [List.length_append, hol, hsrc.newsLen, Array.length_toList, size_zeroCells, hzs, Nat.zero_add]
          rw [← Nat.add_mul, ← Nat.add_mul]
          exact Nat.mul_le_mul_right _ (by omega))
        simpa using this
      · have e5 : ((olds' ++ news') ++ (Builtin.zeroCells z.cells (grownCap W (sLen + n) sCap e - (sLen + n))).toList).toArray = (olds' ++ news').toArray ++ Builtin.zeroCells z.cells (grownCap W (sLen + n) sCap e - (sLen + n)) := by
          apply Array.ext'
          simp
        rw [e5] at g2
        exact g2.of_drew
    · cases hs
  · cases hs

end
end Go.Proofs.Ytmcefodfppdajaa.Sim

/- Symbolic run of single operations: append whole, copy, lengths, comparisons with nil. No program is named here. -/
set_option linter.unusedSimpArgs false
namespace Go.Proofs.Ytmcefodfppdajaa.Sim
open Go Go.RowKit Go.WideShapes

noncomputable section
variable {P : Program}
theorem HR.transfer {n0 : Nat} {ρ : Rn} {H : Heap} {W : World} (h : HR P n0 ρ H W) {b nm o k : Nat} {xs : List Value} {t : TypeId} (hb : hget H b = some (.cells xs t)) {L : Loc} (hL : ρ b = some L) (hnm : hget H nm = none) (ho : o + k ≤ xs.length) {news news' : List Value} (hn : LR ρ news news') (hfit : o + k + news'.length ≤ L.n) :
    ∃ cs : Array Value, W.heap[L.x]? = some (.cells cs t (0, 0)) ∧ L.s + o + k + news'.length ≤ cs.size ∧ L.sz = szOf P t ∧ ∃ ρ', ρ' nm = some ⟨L.x, L.s + o, L.n - o, L.sz⟩ ∧
      Okay P n0 ρ H W (hins (hset H b .dead) nm (.cells ((xs.drop o).take k ++ news) t)) [b] ρ' (W.setRow L.x (cs.toList.take (L.s + o + k) ++ news' ++ cs.toList.drop (L.s + o + k + news'.length)).toArray) := by
  obtain ⟨L2, h1, h2, h3, g0, cs, g1, g2, g3, g4⟩ := h.obj b _ hb
  rw [hL] at h1
  cases h1
  have hnl := hn.1
  have hbn : b ≠ nm := fun e => by subst e; rw [hnm] at hb; cases hb
  have hfitc : L.s + o + k + news'.length ≤ cs.toList.length := by simp; omega
  have hρ : ρ nm = none := by
    cases hr : ρ nm with
    | none => rfl
    | some M => have := h.dom nm M hr; rw [hnm] at this; cases this
  have hx : Ext ρ (fun q => if q = nm then some ⟨L.x, L.s + o, L.n - o, L.sz⟩ else ρ q) := fun q M hq => by
    by_cases e : q = nm
    · subst e; rw [hρ] at hq; cases hq
    · simp [e, hq]
  have hn1 : hget (hset H b .dead) nm = none := by rw [hget_hset_other hbn.symm]; exact hnm
  have look : ∀ q oq, hget (hins (hset H b .dead) nm (.cells ((xs.drop o).take k ++ news) t)) q = some oq → q ≠ nm → q ≠ b → hget H q = some oq := fun q oq hq e1 e2 => by
    rw [hget_hins_other e1, hget_hset_other e2] at hq
    exact hq
  have lookb : ∀ oq, hget (hins (hset H b .dead) nm (.cells ((xs.drop o).take k ++ news) t)) b = some oq → oq = .dead := fun oq hq => by
    rw [hget_hins_other hbn, hget_hset_same hb] at hq
    cases hq
    rfl
  have lookn : ∀ oq, hget (hins (hset H b .dead) nm (.cells ((xs.drop o).take k ++ news) t)) nm = some oq → oq = .cells ((xs.drop o).take k ++ news) t := fun oq hq => by
    rw [hget_hins_same hn1] at hq
    cases hq
    rfl
  refine ⟨cs, g1, by simpa using hfitc, g0, fun q => if q = nm then some ⟨L.x, L.s + o, L.n - o, L.sz⟩ else ρ q, by simp, hx, ⟨?_, ?_, ?_⟩, ⟨rfl, rfl, rfl, by simp, fun q hq => setRow_other W _ q _ (by omega)⟩, ?_, fun q oq hq hn => by
    simp at hn
    have hqn : q ≠ nm := fun e => by subst e; rw [hnm] at hq; cases hq
    rw [hget_hins_other hqn, hget_hset_other hn]
    exact hq⟩
  · intro q M hq
    by_cases e : q = nm
    · subst e; rw [hget_hins_same hn1]; rfl
    · rw [hget_hins_other e]
      simp [e] at hq
      by_cases e2 : q = b
      · subst e2; rw [hget_hset_same hb]; rfl
      · rw [hget_hset_other e2]; exact h.dom q M hq
  · intro q oq hq
    by_cases e : q = nm
    · subst e
      have := lookn oq hq
      subst this
      refine ⟨⟨L.x, L.s + o, L.n - o, L.sz⟩, by simp, h2, by simpa using h3, g0, _, setRow_heap W L.x cs _ t (0, 0) g1, ?_, ?_, ?_⟩
      · have := ovl_length (xs := cs.toList) (vs := news') (o := L.s + o + k) (by omega)
        unfold ovl at this
        rw [List.size_toArray, this]
        simp
        omega
      · simp
        omega
      · intro i v hv
        have e2 := ovl_get (xs := cs.toList) (vs := news') (o := L.s + o + k) (by omega) (L.s + o + i)
        unfold ovl at e2
        rw [List.getElem?_toArray, e2]
        have hol : ((xs.drop o).take k).length = k := by simp; omega
        by_cases hik : i < k
        · rw [List.getElem?_append_left (by omega), List.getElem?_take, if_pos hik, List.getElem?_drop] at hv
          rw [if_neg (by omega)]
          obtain ⟨v', a, c⟩ := g4 (o + i) v hv
          exact ⟨v', by rw [Array.getElem?_toList, show L.s + o + i = L.s + (o + i) from by omega]; exact a, c.mono hx⟩
        · rw [List.getElem?_append_right (by omega), hol] at hv
          obtain ⟨v', a, c⟩ := hn.get hv
          have : i - k < news'.length := (List.getElem?_eq_some_iff.1 a).1
          rw [if_pos (by omega)]
          exact ⟨v', by rw [show L.s + o + i - (L.s + o + k) = i - k from by omega]; exact a, c.mono hx⟩
    · by_cases e2 : q = b
      · subst e2
        have := lookb oq hq
        subst this
        exact ⟨L, by simp [e, hL], h2, by simpa using h3, trivial⟩
      · have hq' := look q oq hq e e2
        obtain ⟨M, k1, k2, k3, k4⟩ := h.obj q oq hq'
        refine ⟨M, by simp [e, k1], k2, by simpa using k3, ?_⟩
        cases hd : isDead oq with
        | true => cases oq <;> first | trivial | cases hd
        | false => exact k4.mono hx (setRow_other W _ _ _ fun e' => e2 (h.inj q b oq _ M L hq' hb hd rfl k1 hL e'))
  · intro q q' o1 o2 M M' hq hq' hd hd' hM hM' he
    have old : ∀ j oj Mj, hget (hins (hset H b .dead) nm (.cells ((xs.drop o).take k ++ news) t)) j = some oj → isDead oj = false → j ≠ nm → (if j = nm then some (⟨L.x, L.s + o, L.n - o, L.sz⟩ : Loc) else ρ j) = some Mj → j ≠ b ∧ hget H j = some oj ∧ ρ j = some Mj := fun j oj Mj hj hdj hjn hMj => by
      have e2 : j ≠ b := fun e2 => by
        subst e2
        rw [lookb oj hj] at hdj
        cases hdj
      exact ⟨e2, look j oj hj hjn e2, by simpa [hjn] using hMj⟩
    by_cases e : q = nm
    · by_cases e' : q' = nm
      · rw [e, e']
      · obtain ⟨p1, p2, p3⟩ := old q' o2 M' hq' hd' e' hM'
        simp [e] at hM
        subst hM
        exact absurd (h.inj q' b o2 _ M' L p2 hb hd' rfl p3 hL he.symm) p1
    · obtain ⟨p1, p2, p3⟩ := old q o1 M hq hd e hM
      by_cases e' : q' = nm
      · simp [e'] at hM'
        subst hM'
        exact absurd (h.inj q b o1 _ M L p2 hb hd rfl p3 hL he) p1
      · obtain ⟨r1, r2, r3⟩ := old q' o2 M' hq' hd' e' hM'
        exact h.inj q q' o1 o2 M M' p2 r2 hd hd' p3 r3 he
  · intro q oq M hq hd hnw hM
    simp at hnw
    have hqn : q ≠ nm := fun e => by subst e; rw [hnm] at hq; cases hq
    rw [hget_hins_other hqn, hget_hset_other hnw]
    exact ⟨hq, setRow_other W _ _ _ fun e' => hnw (h.inj q b oq _ M L hq hb hd rfl hM hL e')⟩

/-- append. -/
def sappend (P : Program) (nm : Nat) (t tx : TypeId) (s x : Value) (H : Heap) : Option (Value × Heap × List Nat) :=
  match und P t with
  | some (.slice e) => match inf P e with
    | some i => match srcOf P tx x i.size H with
      | some (n, news) => match s with
        | .slice none 0 0 => match n with
          | 0 => some (.slice none 0 0, H, [])
          | m + 1 => match sgrow P nm e [] news (0 + (m + 1)) H with
            | some (u, H') => some (u, H', [])
            | none => none
        | .slice (some ⟨b, o, none⟩) len c => match hget H b with
          | some (.cells xs ty) => match Nat.ble (o + len * i.size) xs.length, Nat.ble UNK c with
            | true, false => match Nat.ble (len + n) c with
              | true => match Nat.ble (o + len * i.size + news.length) xs.length with
                | true => some (.slice (some ⟨b, o, none⟩) (len + n) c, hset H b (.cells (ovl xs (o + len * i.size) news) ty), [b])
                | false => none
              | false => match sgrow P nm e ((xs.drop o).take (len * i.size)) news (len + n) H with
                | some (u, H') => some (u, H', [])
                | none => none
            | true, true => match (Nat.beq ty e).and (Nat.beq c (UNK + i.size)), sgrow P nm e ((xs.drop o).take (len * i.size)) news (len + n) H with
              | true, some (u, _) => some (u, hins (hset H b .dead) nm (.cells ((xs.drop o).take (len * i.size) ++ news) e), [b])
              | _, _ => none
            | _, _ => none
          | _ => none
        | _ => none
      | none => none
    | none => none
  | _ => none

theorem Okay.kill {n0 : Nat} {ρ ρ' : Rn} {H H' H2 : Heap} {W W' : World} {wr : List Nat} {b : Nat} (k : Okay P n0 ρ H W H' wr ρ' W') (hb : (hget H' b).isSome = true) (h2 : ∀ q, hget H2 q = if q = b then some .dead else hget H' q) : Okay P n0 ρ H W H2 (b :: wr) ρ' W' :=
  ⟨k.ext, ⟨fun q L hq => by
      rw [h2]
      split
      · rfl
      · exact k.hr.dom q L hq, fun q o hq => by
      rw [h2] at hq
      split at hq
      · rename_i e
        subst e
        cases hq
        obtain ⟨o', ho'⟩ := Option.isSome_iff_exists.1 hb
        obtain ⟨L, k1, k2, k3, -⟩ := k.hr.obj q o' ho'
        exact ⟨L, k1, k2, k3, trivial⟩
      · exact k.hr.obj q o hq, fun q q' o o' L L' hq hq' hd hd' hL hL' he => by
      rw [h2] at hq hq'
      split at hq
      · cases hq; cases hd
      · split at hq'
        · cases hq'; cases hd'
        · exact k.hr.inj q q' o o' L L' hq hq' hd hd' hL hL' he⟩, k.below, fun q o L hq hd hn hL => by
      simp only [List.mem_cons, not_or] at hn
      obtain ⟨x, y⟩ := k.fr q o L hq hd hn.2 hL
      exact ⟨by rw [h2, if_neg hn.1]; exact x, y⟩, fun q o hq hn => by
      simp only [List.mem_cons, not_or] at hn
      rw [h2, if_neg hn.1]
      exact k.fr1 q o hq hn.2⟩
theorem sgrow_new {nm : Nat} {e : TypeId} {olds news : List Value} {need : Nat} {H H' : Heap} {u : Value} (hs : sgrow P nm e olds news need H = some (u, H')) : hget H nm = none ∧ H' = hins H nm (.cells (olds ++ news) e) ∧ u = .slice (some ⟨nm, 0, none⟩) need (UNK + szOf P e) ∧ need + 1 ≤ UNK := by
  unfold sgrow at hs
  simp only [inf_eq, und_eq, fun1_eq] at hs
  split at hs
  · rename_i i hi
    split at hs
    · split at hs
      · rename_i e1 e2 e3 hn
        cases hs
        unfold snew at hn
        split at hn
        · rename_i hnm
          cases hn
          exact ⟨hnm, rfl, by rw [szOf_eq hi], Nat.le_of_ble_eq_true e3⟩
        · cases hn
      · cases hs
    · cases hs
  · cases hs
theorem sappend_ok {n0 : Nat} {ρ : Rn} {H H' : Heap} {W : World} {nm : Nat} {t tx ty : TypeId} {s s' x x' u : Value} {wr : List Nat} (hs : sappend P nm t tx s x H = some (u, H', wr)) (hv : VR ρ s s') (hx : VR ρ x x') (h : HR P n0 ρ H W) (h0 : n0 ≤ W.heap.size) :
    ∃ ρ' W' u', (Builtin.append_ #[t, tx] ty #[s', x']).run P W = .ok u' W' ∧ VR ρ' u u' ∧ Okay P n0 ρ H W H' wr ρ' W' := by
  unfold sappend at hs
  simp only [inf_eq, und_eq, fun1_eq] at hs
  split at hs
  · rename_i e ht
    split at hs
    · rename_i i hi
      split at hs
      · rename_i n news hsrc
        obtain ⟨news', hn, src⟩ := srcOf_ok hsrc hx h
        split at hs
        · have := hv.lit_eq rfl
          subst this
          split at hs
          · cases hs
            exact ⟨ρ, W, _, app_none ht hi src, .lit rfl, Okay.refl h⟩
          · rename_i m
            split at hs
            · rename_i u2 H2 hg
              cases hs
              exact sgrow_ok (sLen := 0) (sCap := 0) (base := none) hg ht hi (LR.nil ρ) (by simp) (run_firstCells_none W.drew i.size 0 0 0) hn src (by omega) h h0
            · cases hs
        · rename_i b o len c
          obtain ⟨L, hL, c', rfl, hc⟩ := hv.slice_inv
          split at hs
          · rename_i xs tb hb
            split at hs
            · rename_i hfit hcu
              have hfit := Nat.le_of_ble_eq_true hfit
              have hcu : c < UNK := Nat.lt_of_not_le fun e => by rw [Nat.ble_eq_true_of_le e] at hcu; cases hcu
              obtain ⟨-, rfl⟩ := hc.resolve_right (fun hh => Nat.not_le.2 hcu hh.1)
              split at hs
              · rename_i hroom
                have hroom := Nat.le_of_ble_eq_true hroom
                split at hs
                · rename_i hin
                  have hin := Nat.le_of_ble_eq_true hin
                  cases hs
                  obtain ⟨cs, q1, q2, q3⟩ := h.store hb hL hin hn
                  have hrun := app_room (P := P) (t := t) (tx := tx) (ty := ty) ht hi q1 (off := L.s + o) (sLen := len) (sCap := c') src hroom (by omega)
                  rw [show L.s + o + len * i.size = L.s + (o + len * i.size) from by omega] at hrun
                  exact ⟨ρ, _, _, hrun, .slice hL hcu, q3⟩
                · cases hs
              · rename_i hroom
                have hroom : c' < len + n := by
                  rcases Nat.lt_or_ge c' (len + n) with hh | hh
                  · exact hh
                  · rw [Nat.ble_eq_true_of_le hh] at hroom; cases hroom
                split at hs
                · rename_i u2 H2 hg
                  cases hs
                  obtain ⟨ys, k1, k2, k3⟩ := h.cells hb hL o (len * i.size) hfit
                  exact sgrow_ok hg ht hi k1 k2 (run_firstCells_some W.drew i.size len _ len c' ys k2 (by simpa using k3)) hn src hroom h h0
                · cases hs
            · rename_i hfit hcu
              have hfit := Nat.le_of_ble_eq_true hfit
              have hcu := Nat.le_of_ble_eq_true hcu
              obtain ⟨-, q0, q1, q2, q3⟩ := hc.resolve_left (fun hh => Nat.not_le.2 hh.1 hcu)
              split at hs
              · rename_i u2 H2 hte hg
                have hte2 : Nat.beq tb e = true ∧ Nat.beq c (UNK + i.size) = true := by
                  cases hh1 : Nat.beq tb e <;> cases hh2 : Nat.beq c (UNK + i.size) <;> simp [hh1, hh2] at hte ⊢
                have hcz := (beq_of _ _).1 hte2.2
                have hz : L.sz = i.size := by omega
                rw [hz] at q3
                have hte := (beq_of _ _).1 hte2.1
                subst hte
                cases hs
                obtain ⟨hnm, rfl, rfl, hlt⟩ := sgrow_new hg
                have hbn : b ≠ nm := fun e => by subst e; rw [hnm] at hb; cases hb
                have hunk : UNK = 9223372036854775808 := rfl
                rcases Nat.lt_or_ge c' (len + n) with hroom | hroom
                · obtain ⟨ys, k1, k2, k3⟩ := h.cells hb hL o (len * i.size) hfit
                  obtain ⟨ρ', W', u', r1, r2, r3⟩ := sgrow_ok (base := some ⟨L.x, L.s + o, none⟩) (tx := tx) (ty := ty) hg ht hi k1 k2 (run_firstCells_some W.drew i.size len _ len c' ys k2 (by simpa using k3)) hn src hroom h h0
                  refine ⟨ρ', W', u', r1, r2, r3.kill (b := b) (by rw [hget_hins_other hbn, hb]; rfl) fun q => ?_⟩
                  by_cases e1 : q = nm
                  · subst e1
                    rw [if_neg hbn.symm, hget_hins_same hnm, hget_hins_same (by rw [hget_hset_other hbn.symm]; exact hnm)]
                  · rw [hget_hins_other e1, hget_hins_other e1]
                    by_cases e2 : q = b
                    · subst e2; rw [if_pos rfl, hget_hset_same hb]
                    · rw [if_neg e2, hget_hset_other e2]
                · have hsz : szOf P tb = i.size := szOf_eq hi
                  have hnl := src.newsLen
                  obtain ⟨L2, m1, m2, m3, m0, -⟩ := h.obj b _ hb
                  rw [hL] at m1
                  cases m1
                  rw [hsz] at m0
                  have hmul : len * i.size + n * i.size ≤ c' * i.size := by rw [← Nat.add_mul]; exact Nat.mul_le_mul_right _ hroom
                  obtain ⟨cs, p1, p2, p0, ρ', p3, p4⟩ := h.transfer hb hL hnm hfit hn (by omega)
                  have hrun := app_room (P := P) (t := t) (tx := tx) (ty := ty) ht hi p1 (off := L.s + o) (sLen := len) (sCap := c') src hroom p2
                  refine ⟨ρ', _, _, hrun, ?_, p4⟩
                  have := VR.sliceU (o := 0) (n := len + n) (c' := c') p3 hz hroom q2 (by rw [← hsz] at q3; simp only [hsz] at q3 ⊢; omega)
                  rw [hsz]
                  simpa using this
              · cases hs
            · cases hs
          · cases hs
        · cases hs
      · cases hs
    · cases hs
  · cases hs

end
end Go.Proofs.Ytmcefodfppdajaa.Sim

/- Symbolic run of single operations: copy, lengths, comparisons with nil; all that look at no memory. No program is named here. -/
set_option linter.unusedSimpArgs false
namespace Go.Proofs.Ytmcefodfppdajaa.Sim
open Go Go.RowKit Go.WideShapes

noncomputable section
variable {P : Program}
def scopy (P : Program) (t : TypeId) (dst src : Value) (H : Heap) : Option (Value × Heap × List Nat) :=
  match und P t with
  | some (.slice e) => match inf P e with
    | some i => match dst, src with
      | .slice none 0 _, .slice none 0 _ => some (.int .i64 0, H, [])
      | .slice none 0 _, .slice (some ⟨_, _, none⟩) _ _ => some (.int .i64 0, H, [])
      | .slice (some ⟨_, _, none⟩) _ _, .slice none 0 _ => some (.int .i64 0, H, [])
      | .slice (some ⟨b, o, none⟩) n _, .slice (some ⟨b2, o2, none⟩) n2 _ => match hget H b, hget H b2 with
        | some (.cells xs ty), some (.cells ys _) => match Nat.ble (o2 + Nat.min n2 n * i.size) ys.length, Nat.ble (o + ((ys.drop o2).take (Nat.min n2 n * i.size)).length) xs.length, ((ys.drop o2).take (Nat.min n2 n * i.size)).all (·.oneCell') with
          | true, true, true => some (.int .i64 (Nat.min n2 n : Nat), hset H b (.cells (ovl xs o ((ys.drop o2).take (Nat.min n2 n * i.size))) ty), [b])
          | _, _, _ => none
        | _, _ => none
      | _, _ => none
    | none => none
  | _ => none
theorem scopy_ok {n0 : Nat} {ρ : Rn} {H H' : Heap} {W : World} {t tx ty : TypeId} {d d' s s' u : Value} {wr : List Nat} (hs : scopy P t d s H = some (u, H', wr)) (hd : VR ρ d d') (hx : VR ρ s s') (h : HR P n0 ρ H W) :
    ∃ W', (Builtin.copy_ #[t, tx] ty #[d', s']).run P W = .ok u W' ∧ isLit u = true ∧ Okay P n0 ρ H W H' wr ρ W' := by
  unfold scopy at hs
  simp only [inf_eq, und_eq, fun1_eq] at hs
  split at hs
  · rename_i e ht
    split at hs
    · rename_i i hi
      split at hs
      · have := hd.lit_eq rfl
        subst this
        have := hx.lit_eq rfl
        subst this
        cases hs
        exact ⟨W, by simp [Builtin.copy_, run_underlying ht, size_get hi, Builtin.lenOf, Builtin.firstCells, goInt], rfl, Okay.refl h⟩
      · have := hd.lit_eq rfl
        subst this
        obtain ⟨L, hL, c', rfl, -⟩ := hx.slice_inv
        cases hs
        exact ⟨W, by simp [Builtin.copy_, run_underlying ht, size_get hi, Builtin.lenOf, Builtin.firstCells, goInt, loadCells, loadCellsFrom], rfl, Okay.refl h⟩
      · have := hx.lit_eq rfl
        subst this
        obtain ⟨L, hL, c', rfl, -⟩ := hd.slice_inv
        cases hs
        exact ⟨W, by simp [Builtin.copy_, run_underlying ht, size_get hi, Builtin.lenOf, Builtin.firstCells, goInt, storeCells], rfl, Okay.refl h⟩
      · rename_i b o n c b2 o2 n2 c2
        obtain ⟨L, hL, c', rfl, -⟩ := hd.slice_inv
        obtain ⟨L2, hL2, c2', rfl, -⟩ := hx.slice_inv
        split at hs
        · rename_i xs tb ys tb2 hb hb2
          split at hs
          · rename_i f1 f2 f3
            cases hs
            obtain ⟨zs, k1, k2, k3⟩ := h.cells hb2 hL2 o2 (Nat.min n2 n * i.size) (Nat.le_of_ble_eq_true f1)
            obtain ⟨cs, g1, g2, g3⟩ := h.store hb hL (Nat.le_of_ble_eq_true f2) k1
            have hl := run_loadCells_list (P := P) W ⟨L2.x, L2.s + o2, none⟩ zs k3
            rw [k2] at hl
            have hst := run_storeCells_at P L.x (L.s + o) tb zs 0 cs W g1 (by simpa using g2) (k1.ones f3)
            simp only [Nat.add_zero] at hst
            refine ⟨_, ?_, rfl, g3⟩
            simp [Builtin.copy_, run_underlying ht, size_get hi, Builtin.lenOf, Builtin.firstCells, goInt, hl, hst]
          · cases hs
        · cases hs
      · cases hs
    · cases hs
  · cases hs
def zcells (z : Value) (n : Nat) : List Value := (Builtin.zeroCells z.cells n).toList
def sclear (P : Program) (t : TypeId) (v : Value) (H : Heap) : Option (Value × Heap × List Nat) :=
  match und P t, v with
  | some (.slice e), .slice (some ⟨b, o, none⟩) (n + 1) _ => match inf P e with
    | some i => match i.zero, hget H b with
      | some z, some (.cells xs ty) => match Nat.ble (o + (zcells z (n + 1)).length) xs.length, (zcells z (n + 1)).all isLit, (zcells z (n + 1)).all (·.oneCell') with
        | true, true, true => some (.tuple #[], hset H b (.cells (ovl xs o (zcells z (n + 1))) ty), [b])
        | _, _, _ => none
      | _, _ => none
    | none => none
  | _, _ => none
theorem sclear_ok {n0 : Nat} {ρ : Rn} {H H' : Heap} {W : World} {t ty : TypeId} {d d' u : Value} {wr : List Nat} (hs : sclear P t d H = some (u, H', wr)) (hd : VR ρ d d') (h : HR P n0 ρ H W) :
    ∃ W', (Builtin.clear_ #[t] ty #[d']).run P W = .ok u W' ∧ isLit u = true ∧ Okay P n0 ρ H W H' wr ρ W' := by
  unfold sclear at hs
  simp only [inf_eq, und_eq, fun1_eq] at hs
  split at hs
  · rename_i e b o n c ht
    obtain ⟨L, hL, c', rfl, -⟩ := hd.slice_inv
    split at hs
    · rename_i i hi
      split at hs
      · rename_i z xs tb hz hb
        split at hs
        · rename_i f1 f2 f3
          cases hs
          have k1 : LR ρ (zcells z (n + 1)) (zcells z (n + 1)) := LR.lits f2
          obtain ⟨cs, g1, g2, g3⟩ := h.store hb hL (Nat.le_of_ble_eq_true f1) k1
          have hst := run_storeCells_at P L.x (L.s + o) tb (zcells z (n + 1)) 0 cs W g1 (by simpa using g2) (k1.ones f3)
          simp only [Nat.add_zero] at hst
          refine ⟨_, ?_, rfl, g3⟩
          unfold zcells at hst ⊢
          simp [Builtin.clear_, run_underlying ht, zero_get hi hz, hst]
        · cases hs
      · cases hs
    · cases hs
  · cases hs
def slen (P : Program) (t : TypeId) (v : Value) (H : Heap) : Option Value :=
  match und P t, v with
  | some (.slice _), .slice (some ⟨_, _, none⟩) n _ => some (.int .i64 n)
  | some (.slice _), .slice (some ⟨_, _, some _⟩) n _ => some (.int .i64 n)
  | some (.map _ _), .map (some b) => match hget H b with
    | some (.map es _) => some (.int .i64 es.length)
    | _ => none
  | _, _ => none
theorem getObj_run {W : World} {r : Nat} {es : Array MapEntry} {k : Nat} (h : W.heap[r]? = some (.map es k)) : (getObj r).run P W = .ok (.map es k) W := by
  simp [getObj, Sem.run, h]
theorem slen_ok {n0 : Nat} {ρ : Rn} {H : Heap} {W : World} {t ty : TypeId} {v v' u : Value} (hs : slen P t v H = some u) (hv : VR ρ v v') (h : HR P n0 ρ H W) : (Builtin.len_ #[t] ty #[v']).run P W = .ok u W ∧ isLit u = true := by
  unfold slen at hs
  simp only [inf_eq, und_eq, fun1_eq] at hs
  split at hs
  · rename_i e b o n c ht
    obtain ⟨L, hL, c', rfl, -⟩ := hv.slice_inv
    cases hs
    exact ⟨by simp [Builtin.len_, run_underlying ht, goInt], rfl⟩
  · rename_i e b o z n c ht
    obtain ⟨A, c', rfl⟩ := hv.empty_inv
    cases hs
    exact ⟨by simp [Builtin.len_, run_underlying ht, goInt], rfl⟩
  · rename_i a1 a2 b ht
    obtain ⟨L, hL, rfl⟩ := hv.map_inv
    split at hs
    · rename_i es k hb
      cases hs
      obtain ⟨L2, h1, -, -, fs, g1, g2, -⟩ := h.obj b _ hb
      rw [hL] at h1
      cases h1
      have : fs.size = es.length := by simpa using g2.symm
      exact ⟨by simp [Builtin.len_, run_underlying ht, goInt, getObj_run g1, this], rfl⟩
    · cases hs
  · cases hs
def scap (P : Program) (t : TypeId) (v : Value) : Option Value :=
  match und P t, v with
  | some (.slice _), .slice (some ⟨_, _, none⟩) _ c => match Nat.ble UNK c with
    | false => some (.int .i64 c)
    | true => none
  | _, _ => none
theorem scap_ok {ρ : Rn} {W : World} {t ty : TypeId} {v v' u : Value} (hs : scap P t v = some u) (hv : VR ρ v v') : (Builtin.cap_ #[t] ty #[v']).run P W = .ok u W ∧ isLit u = true := by
  unfold scap at hs
  simp only [inf_eq, und_eq, fun1_eq] at hs
  split at hs
  · rename_i e b o n c ht
    obtain ⟨L, hL, c', rfl, hc⟩ := hv.slice_inv
    split at hs
    · rename_i hcu
      have hcu : c < UNK := Nat.lt_of_not_le fun e => by rw [Nat.ble_eq_true_of_le e] at hcu; cases hcu
      obtain ⟨-, rfl⟩ := hc.resolve_right (fun hh => Nat.not_le.2 hcu hh.1)
      cases hs
      exact ⟨by simp [Builtin.cap_, run_underlying ht, goInt], rfl⟩
    · cases hs
  · cases hs
/-- A value that is not nil held against nil. -/
def isNilOf (P : Program) (t : TypeId) (x y : Value) : Bool :=
  match und P t, x, y with
  | some (.pointer _), .pointer (some ⟨_, _, none⟩), .pointer none => true
  | some (.slice _), .slice (some ⟨_, _, none⟩) _ _, .slice none _ _ => true
  | some (.map _ _), .map (some _), .map none => true
  | some (.func _ _ _), .func (.func _) _ _, .nilFunc => true
  | _, _, _ => false
def snil (P : Program) (op : BinOp) (t : TypeId) (x y : Value) : Option Value :=
  match isNilOf P t x y, op with
  | true, .eql => some (.bool false)
  | true, .neq => some (.bool true)
  | _, _ => none
theorem eq_ptr {W : World} {t e : TypeId} (d : Nat) (ht : P.underlying t = some (.pointer e)) (a : Addr) : (Op.equalIn (d + 1) t (.pointer (some a)) (.pointer none)).run P W = .ok false W := by
  rw [Op.equalIn]
  simp [run_underlying ht]
theorem eq_slice {W : World} {t e : TypeId} (d : Nat) (ht : P.underlying t = some (.slice e)) (a : Addr) (n c n2 c2 : Nat) : (Op.equalIn (d + 1) t (.slice (some a) n c) (.slice none n2 c2)).run P W = .ok false W := by
  rw [Op.equalIn]
  simp [run_underlying ht]
theorem eq_map {W : World} {t k e : TypeId} (d : Nat) (ht : P.underlying t = some (.map k e)) (a : Nat) : (Op.equalIn (d + 1) t (.map (some a)) (.map none)).run P W = .ok false W := by
  rw [Op.equalIn]
  simp [run_underlying ht]
theorem eq_func {W : World} {t : TypeId} {ps rs : Array TypeId} {v : Bool} (d : Nat) (ht : P.underlying t = some (.func ps rs v)) (f : Fn) (as cs : Array Value) : (Op.equalIn (d + 1) t (.func f as cs) .nilFunc).run P W = .ok false W := by
  rw [Op.equalIn]
  simp [run_underlying ht]
theorem snil_ok {ρ : Rn} {W : World} {op : BinOp} {t : TypeId} {ox oy : Operand} {x x' y y' u : Value} (hs : snil P op t x y = some u) (hx : VR ρ x x') (hy : VR ρ y y') :
    (do eqGuard op t ox oy x' y'; binOp op t x' y' : Sem Value).run P W = .ok u W ∧ isLit u = true := by
  unfold snil at hs
  have key : isNilOf P t x y = true → (∀ f, f = true → True) → (Op.equal t x' y').run P W = .ok false W ∧ (∀ o2, (o2 = BinOp.eql ∨ o2 = BinOp.neq) → (eqGuard o2 t ox oy x' y').run P W = .ok () W ∧ (binOp .eql t x' y').run P W = .ok (.bool false) W ∧ (binOp .neq t x' y').run P W = .ok (.bool true) W) := by
    intro hn _
    unfold isNilOf at hn
    simp only [inf_eq, und_eq, fun1_eq] at hn
    split at hn
    · rename_i e b o ht
      obtain ⟨L, -, rfl⟩ := hx.ptr_inv
      have := hy.lit_eq rfl
      subst this
      have he : (Op.equal t (.pointer (some ⟨L.x, L.s + o, none⟩)) (.pointer none)).run P W = .ok false W := eq_ptr 9999 ht _
      exact ⟨he, fun o2 ho => ⟨by rcases ho with rfl | rfl <;> simp [eqGuard], by simp [binOp, he], by simp [binOp, he]⟩⟩
    · rename_i e b o n c c2 c3 ht
      obtain ⟨L, -, c', rfl, -⟩ := hx.slice_inv
      have := hy.lit_eq rfl
      subst this
      have he : (Op.equal t (.slice (some ⟨L.x, L.s + o, none⟩) n c') (.slice none c2 c3)).run P W = .ok false W := eq_slice 9999 ht _ _ _ _ _
      exact ⟨he, fun o2 ho => ⟨by rcases ho with rfl | rfl <;> simp [eqGuard], by simp [binOp, he], by simp [binOp, he]⟩⟩
    · rename_i a1 a2 b ht
      obtain ⟨L, -, rfl⟩ := hx.map_inv
      have := hy.lit_eq rfl
      subst this
      have he : (Op.equal t (.map (some L.x)) (.map none)).run P W = .ok false W := eq_map 9999 ht _
      exact ⟨he, fun o2 ho => ⟨by rcases ho with rfl | rfl <;> simp [eqGuard], by simp [binOp, he], by simp [binOp, he]⟩⟩
    · rename_i a1 a2 a3 f c1 c2 ht
      have := hy.lit_eq rfl
      subst this
      have hf : ∃ d1 d2, x' = .func (.func f) d1 d2 := by
        cases hx with
        | lit _ => exact ⟨_, _, rfl⟩
        | func _ _ _ _ => exact ⟨_, _, rfl⟩
      obtain ⟨d1, d2, rfl⟩ := hf
      have he : (Op.equal t (.func (.func f) d1 d2) .nilFunc).run P W = .ok false W := eq_func 9999 ht _ _ _
      exact ⟨he, fun o2 ho => ⟨by rcases ho with rfl | rfl <;> simp [eqGuard], by simp [binOp, he], by simp [binOp, he]⟩⟩
    · cases hn
  split at hs
  · rename_i hn
    cases hs
    obtain ⟨-, k⟩ := key hn (fun _ _ => trivial)
    obtain ⟨k1, k2, -⟩ := k .eql (.inl rfl)
    exact ⟨by simp [k1, k2], rfl⟩
  · rename_i hn
    cases hs
    obtain ⟨-, k⟩ := key hn (fun _ _ => trivial)
    obtain ⟨k1, -, k3⟩ := k .neq (.inr rfl)
    exact ⟨by simp [k1, k3], rfl⟩
  · cases hs

end
end Go.Proofs.Ytmcefodfppdajaa.Sim

/- Symbolic run: bytes as strings. No program is named here. -/
set_option linter.unusedSimpArgs false
namespace Go.Proofs.Ytmcefodfppdajaa.Sim
open Go Go.RowKit Go.WideShapes

noncomputable section
variable {P : Program}
def bytesOf : List Value → Option (List Int)
  | [] => some []
  | .int .u8 n :: r => match bytesOf r with
    | some l => some (n :: l)
    | none => none
  | _ => none
theorem bytesOf_eq : ∀ {vs : List Value} {ns : List Int}, bytesOf vs = some ns → vs = ns.map (Value.int .u8)
  | [], ns, h => by
    simp only [bytesOf, Option.some.injEq] at h
    subst h
    rfl
  | v :: r, ns, h => by
    unfold bytesOf at h
    split at h
    · rename_i e
      cases e
    · rename_i n r2 e
      cases e
      split at h
      · rename_i l hl
        cases h
        rw [bytesOf_eq hl]
        rfl
      · cases h
    · cases h
def sstr (P : Program) (s d : TypeId) (v : Value) (H : Heap) : Option Value :=
  match und P s, und P d with
  | some (.slice e), some .string => match und P e, v with
    | some (.int .u8), .slice none _ _ => some (.string ByteArray.empty)
    | some (.int .u8), .slice (some ⟨b, o, none⟩) n _ => match hget H b with
      | some (.cells xs _) => match Nat.ble (o + n) xs.length, bytesOf ((xs.drop o).take n) with
        | true, some ns => some (.string (ns.foldl (fun r n => r.push (UInt8.ofNat n.toNat)) ByteArray.empty))
        | _, _ => none
      | _ => none
    | _, _ => none
  | _, _ => none
theorem sstr_ok {n0 : Nat} {ρ : Rn} {H : Heap} {W : World} {s d : TypeId} {v v' u : Value} (hs : sstr P s d v H = some u) (hv : VR ρ v v') (h : HR P n0 ρ H W) : (convert s d v').run P W = .ok u W ∧ isLit u = true := by
  unfold sstr at hs
  simp only [inf_eq, und_eq] at hs
  split at hs
  · rename_i e he hd
    split at hs
    · rename_i l c hu
      cases hs
      have := hv.lit_eq rfl
      subst this
      rw [run_convert_bytes_string W s d e _ l c he hu hd]
      exact ⟨by simp [Conv.bytesToString], rfl⟩
    · rename_i b o n c hu
      obtain ⟨L, hL, c', rfl, -⟩ := hv.slice_inv
      split at hs
      · rename_i xs ty hb
        split at hs
        · rename_i ns hle hns
          cases hs
          obtain ⟨ys, k1, k2, k3⟩ := h.cells hb hL o n (Nat.le_of_ble_eq_true hle)
          have e1 := bytesOf_eq hns
          have e2 : ys = ns.map (Value.int .u8) := by
            rw [e1] at k1
            refine List.ext_getElem? fun i => ?_
            cases hi : (ns.map (Value.int .u8))[i]? with
            | none =>
              have hl := k1.1
              simp at hi hl ⊢
              omega
            | some v =>
              obtain ⟨v2, a1, a2⟩ := k1.get hi
              rw [a1]
              have : isLit v = true := by
                have := List.mem_of_getElem? hi
                obtain ⟨n, -, rfl⟩ := List.mem_map.1 this
                rfl
              rw [a2.lit_eq this]
          have hl := run_loadCells_list (P := P) W ⟨L.x, L.s + o, none⟩ ys k3
          rw [k2, e2] at hl
          rw [run_convert_bytes_string W s d e _ n c' he hu hd, run_bytesToString W _ n c' ns hl]
          exact ⟨rfl, rfl⟩
        · cases hs
      · cases hs
    · cases hs
  · cases hs
end
end Go.Proofs.Ytmcefodfppdajaa.Sim

/- Symbolic run: finding a key among the entries of a map. No program is named here. -/
set_option linter.unusedSimpArgs false
namespace Go.Proofs.Ytmcefodfppdajaa.Sim
open Go Go.RowKit Go.WideShapes

noncomputable section
variable {P : Program}
theorem pv_bind {α β : Type} {f : α → Sem β} {b : β} : ∀ {s : Sem α}, pv P (s >>= f) = some b → ∃ a, pv P s = some a ∧ pv P (f a) = some b
  | .pure a, h => ⟨a, rfl, h⟩
  | .program k, h => by
    obtain ⟨a, h1, h2⟩ := pv_bind (s := k P) (f := f) h
    exact ⟨a, h1, h2⟩
  | .mark m k, h => by
    obtain ⟨a, h1, h2⟩ := pv_bind (s := k) (f := f) h
    exact ⟨a, h1, h2⟩
  | .load .., h => by cases h
  | .store .., h => by cases h
  | .new .., h => by cases h
  | .shape .., h => by cases h
  | .freeze .., h => by cases h
  | .frozen .., h => by cases h
  | .getObj .., h => by cases h
  | .setObj .., h => by cases h
  | .choose .., h => by cases h
  | .sys .., h => by cases h
  | .halt .., h => by cases h
/-- Entries with the names of the run. -/
def ents (es : List (Value × Value × Nat)) : List MapEntry := es.map fun e => { key := e.1, val := e.2.1, born := e.2.2 }
/-- Lists of entries. -/
def EL (ρ : Rn) (es : List (Value × Value × Nat)) (fs : List MapEntry) : Prop := ER ρ es fs
theorem EL.cons_inv {ρ : Rn} {e : Value × Value × Nat} {es : List (Value × Value × Nat)} {fs : List MapEntry} (h : EL ρ (e :: es) fs) : ∃ f gs, fs = f :: gs ∧ f.key = e.1 ∧ VR ρ e.2.1 f.val ∧ f.born = e.2.2 ∧ EL ρ es gs := by
  obtain ⟨hl, h⟩ := h
  match fs, hl with
  | f :: gs, hl =>
    obtain ⟨h1, h2, h3⟩ := h 0 e f rfl rfl
    exact ⟨f, gs, rfl, h1, h2, h3, by simpa using hl, fun i a b ha hb => h (i + 1) a b (by simpa using ha) (by simpa using hb)⟩
/-- What is found has the same number. -/
def FoundR (ρ : Rn) (r : Option (Nat × Value)) (r' : Option (Nat × Value)) : Prop :=
  (r = none ∧ r' = none) ∨ ∃ i v v', r = some (i, v) ∧ r' = some (i, v') ∧ VR ρ v v'
theorem findNow_rel {ρ : Rn} {kd : TypeDesc} {k : Value} : ∀ {es : List (Value × Value × Nat)} {fs : List MapEntry} {i : Nat}, EL ρ es fs →
    (Instr.findNow kd k (ents es) i = none ∧ Instr.findNow kd k fs i = none) ∨ ∃ r r', Instr.findNow kd k (ents es) i = some r ∧ Instr.findNow kd k fs i = some r' ∧ FoundR ρ r r'
  | [], fs, i, h => by
    have : fs = [] := by simpa using h.1.symm
    subst this
    exact .inr ⟨none, none, rfl, rfl, .inl ⟨rfl, rfl⟩⟩
  | e :: es, fs, i, h => by
    obtain ⟨f, gs, rfl, h1, h2, h3, h4⟩ := h.cons_inv
    simp only [ents, List.map_cons, Instr.findNow, h1]
    cases hs : Instr.sameNow kd k e.1 with
    | none => exact .inl ⟨rfl, rfl⟩
    | some b =>
      cases b with
      | true => exact .inr ⟨_, _, rfl, rfl, .inr ⟨i, _, _, rfl, rfl, h2⟩⟩
      | false => exact findNow_rel h4
theorem findAsking_rel {ρ : Rn} {kt : TypeId} {k : Value} {W : World} : ∀ {es : List (Value × Value × Nat)} {fs : List MapEntry} {i : Nat} {r : Option (Nat × Value)}, EL ρ es fs → pv P (Instr.findAsking kt k (ents es) i) = some r → ∃ r', (Instr.findAsking kt k fs i).run P W = .ok r' W ∧ FoundR ρ r r'
  | [], fs, i, r, h, hp => by
    have : fs = [] := by simpa using h.1.symm
    subst this
    simp only [ents, List.map_nil, Instr.findAsking] at hp
    cases hp
    exact ⟨none, rfl, .inl ⟨rfl, rfl⟩⟩
  | e :: es, fs, i, r, h, hp => by
    obtain ⟨f, gs, rfl, h1, h2, h3, h4⟩ := h.cons_inv
    simp only [ents, List.map_cons, Instr.findAsking] at hp ⊢
    obtain ⟨b, g1, g2⟩ := pv_bind hp
    rw [h1, Sem.run_bind, pv_run g1 W]
    simp only [Result.andThen]
    cases b with
    | true =>
      simp only [if_true] at g2 ⊢
      cases g2
      exact ⟨_, rfl, .inr ⟨i, _, _, rfl, rfl, h2⟩⟩
    | false =>
      simp only [Bool.false_eq_true, if_false] at g2 ⊢
      exact findAsking_rel h4 g2
theorem findKey_rel {ρ : Rn} {kt : TypeId} {k : Value} {W : World} {es : List (Value × Value × Nat)} {fs : List MapEntry} {r : Option (Nat × Value)} (h : EL ρ es fs) (hp : pv P (Instr.findKey kt k (ents es)) = some r) : ∃ r', (Instr.findKey kt k fs).run P W = .ok r' W ∧ FoundR ρ r r' := by
  unfold Instr.findKey at hp ⊢
  obtain ⟨d, g1, g2⟩ := pv_bind hp
  rw [Sem.run_bind, pv_run g1 W]
  simp only [Result.andThen]
  rcases findNow_rel (kd := d) (k := k) (i := 0) h with ⟨e1, e2⟩ | ⟨q, q', e1, e2, e3⟩
  · rw [e1] at g2
    rw [e2]
    exact findAsking_rel h g2
  · rw [e1] at g2
    rw [e2]
    cases g2
    exact ⟨q', rfl, e3⟩
end
end Go.Proofs.Ytmcefodfppdajaa.Sim

/- Symbolic run: maps that are made, asked and written. No program is named here. -/
set_option linter.unusedSimpArgs false
namespace Go.Proofs.Ytmcefodfppdajaa.Sim
open Go Go.RowKit Go.WideShapes

noncomputable section
variable {P : Program}
def skey (P : Program) (empty : Bool) (kt : TypeId) (k : Value) : Bool :=
  match pv P (Instr.checkKey empty 10000 kt k) with
  | some _ => true
  | none => false
theorem skey_run {empty : Bool} {kt : TypeId} {k : Value} (h : skey P empty kt k = true) (W : World) : (Instr.checkKey empty 10000 kt k).run P W = .ok () W := by
  unfold skey at h
  split at h
  · rename_i u hp
    exact pv_run hp W
  · cases h
def smEnts (m : Value) (H : Heap) : Option (List (Value × Value × Nat)) :=
  match m with
  | .map none => some []
  | .map (some b) => match hget H b with
    | some (.map es _) => some es
    | _ => none
  | _ => none
theorem smEnts_ok {n0 : Nat} {ρ : Rn} {H : Heap} {W : World} {m m' : Value} {es : List (Value × Value × Nat)} (hs : smEnts m H = some es) (hv : VR ρ m m') (h : HR P n0 ρ H W) :
    (m' = .map none ∧ es = []) ∨ ∃ b L fs k, m' = .map (some L.x) ∧ ρ b = some L ∧ hget H b = some (.map es k) ∧ W.heap[L.x]? = some (.map fs k) ∧ EL ρ es fs.toList := by
  unfold smEnts at hs
  split at hs
  · cases hs
    exact .inl ⟨hv.lit_eq rfl, rfl⟩
  · rename_i b
    split at hs
    · rename_i es2 k hb
      cases hs
      obtain ⟨L, hL, rfl⟩ := hv.map_inv
      obtain ⟨L2, h1, h2, h3, fs, h4, h5⟩ := h.obj b _ hb
      rw [hL] at h1
      cases h1
      exact .inr ⟨b, L, fs, k, rfl, hL, hb, h4, h5⟩
    · cases hs
  · cases hs
def okPair (ok : Bool) (v : Value) (b : Bool) : Value :=
  match ok with
  | true => .tuple #[v, .bool b]
  | false => v
theorem okPair_rel {ρ : Rn} {v v' : Value} (h : VR ρ v v') (ok b : Bool) : VR ρ (okPair ok v b) (okPair ok v' b) := by
  cases ok with
  | false => exact h
  | true => exact VR.tuple_ (xs := [v, .bool b]) (ys := [v', .bool b]) (LR.cons h (LR.cons (.lit rfl) (LR.nil ρ)))
def slookup (P : Program) (t : TypeId) (m k : Value) (ok : Bool) (H : Heap) : Option Value :=
  match und P t, isLit k, smEnts m H with
  | some (.map kt et), true, some es => match skey P es.isEmpty kt k, pv P (Instr.findKey kt k (ents es)), inf P et with
    | true, some (some (_, v)), _ => some (okPair ok v true)
    | true, some none, some i => match i.zero with
      | some z => match isLit z with
        | true => some (okPair ok z false)
        | false => none
      | none => none
    | _, _, _ => none
  | _, _, _ => none
theorem slookup_ok {n0 : Nat} {ρ : Rn} {H : Heap} {W : World} {t : TypeId} {m m' k k' u : Value} {ok : Bool} (hs : slookup P t m k ok H = some u) (hm : VR ρ m m') (hk : VR ρ k k') (h : HR P n0 ρ H W) :
    ∃ u', (Instr.lookup t m' k' ok).run P W = .ok u' W ∧ VR ρ u u' := by
  unfold slookup at hs
  simp only [inf_eq, und_eq] at hs
  split at hs
  · rename_i kt et es ht hl he
    have := hk.lit_eq hl
    subst this
    have run : ∀ {fs : Array MapEntry}, EL ρ es fs.toList → ((m' = .map none ∧ fs = #[]) ∨ ∃ r c, m' = .map (some r) ∧ W.heap[r]? = some (.map fs c)) → ∃ u', (Instr.lookup t m' k' ok).run P W = .ok u' W ∧ VR ρ u u' := fun {fs} hE hM => by
      have hemp : fs.isEmpty = es.isEmpty := by
        have e := hE.1
        rw [← Array.isEmpty_toList]
        cases es <;> cases hf : fs.toList <;> simp [hf] at e ⊢
      have fin : ∀ {r' : Option (Nat × Value)} {u' : Value}, skey P fs.isEmpty kt k' = true → (Instr.findKey kt k' fs.toList).run P W = .ok r' W → ((∃ i v', r' = some (i, v') ∧ u' = okPair ok v' true) ∨ (r' = none ∧ ∃ z, (zeroValue et).run P W = .ok z W ∧ u' = okPair ok z false)) → (Instr.lookup t m' k' ok).run P W = .ok u' W := fun {r' u'} hq g1 hr => by
        have q1 := skey_run hq W
        rcases hM with ⟨rfl, rfl⟩ | ⟨r, c, rfl, hb⟩
        · simp only [Array.isEmpty_empty] at q1
          rcases hr with ⟨i, v', rfl, rfl⟩ | ⟨rfl, z, hz, rfl⟩
          · cases ok <;> simp [Instr.lookup, Sem.run_bind, run_underlying ht, q1, g1, okPair]
          · cases ok <;> simp [Instr.lookup, Sem.run_bind, run_underlying ht, q1, g1, okPair, hz]
        · rcases hr with ⟨i, v', rfl, rfl⟩ | ⟨rfl, z, hz, rfl⟩
          · cases ok <;> simp [Instr.lookup, Sem.run_bind, run_underlying ht, run_getObj_map W r fs c hb, q1, g1, okPair]
          · cases ok <;> simp [Instr.lookup, Sem.run_bind, run_underlying ht, run_getObj_map W r fs c hb, q1, g1, okPair, hz]
      split at hs
      · rename_i i v hq hf
        cases hs
        obtain ⟨r', g1, g2⟩ := findKey_rel (W := W) hE hf
        rcases g2 with ⟨e1, -⟩ | ⟨i2, v2, v', e1, rfl, e3⟩
        · cases e1
        · cases e1
          rw [← hemp] at hq
          exact ⟨okPair ok v' true, fin hq g1 (.inl ⟨_, _, rfl, rfl⟩), okPair_rel e3 ok true⟩
      · rename_i i hq hf hi
        split at hs
        · rename_i z hz
          split at hs
          · rename_i hzl
            cases hs
            obtain ⟨r', g1, g2⟩ := findKey_rel (W := W) hE hf
            rcases g2 with ⟨-, rfl⟩ | ⟨i2, v2, v', e1, -, -⟩
            · rw [← hemp] at hq
              exact ⟨okPair ok z false, fin hq g1 (.inr ⟨rfl, z, zero_get hi hz W, rfl⟩), okPair_rel (.lit hzl) ok false⟩
            · cases e1
          · cases hs
        · cases hs
      · cases hs
    rcases smEnts_ok he hm h with ⟨e1, e2⟩ | ⟨b, L, fs, c, e1, -, -, e4, e5⟩
    · subst e2
      exact run (fs := #[]) ⟨rfl, fun i a b ha => by simp at ha⟩ (.inl ⟨e1, rfl⟩)
    · exact run e5 (.inr ⟨L.x, c, e1, e4⟩)
  · cases hs
/-- A map is written. -/
theorem HR.mapset {n0 : Nat} {ρ : Rn} {H : Heap} {W : World} (h : HR P n0 ρ H W) {b : Nat} {es es' : List (Value × Value × Nat)} {k k' : Nat} (hb : hget H b = some (.map es k)) {L : Loc} (hL : ρ b = some L) {fs' : Array MapEntry} (he : EL ρ es' fs'.toList) :
    Okay P n0 ρ H W (hset H b (.map es' k')) [b] ρ { W with heap := W.heap.setIfInBounds L.x (.map fs' k') } := by
  obtain ⟨L2, h1, h2, h3, g⟩ := h.obj b _ hb
  rw [hL] at h1
  cases h1
  have other : ∀ x, x ≠ L.x → ({ W with heap := W.heap.setIfInBounds L.x (.map fs' k') } : World).heap[x]? = W.heap[x]? := fun x hx => by simp [Array.getElem?_setIfInBounds, Ne.symm hx]
  refine ⟨Ext.refl _, ⟨?_, ?_, ?_⟩, ⟨rfl, rfl, rfl, by simp, fun x hx => other x (by omega)⟩, ?_, fun q o' hq hn => by simp at hn; rw [hget_hset_other hn]; exact hq⟩
  · intro q L' hq
    by_cases e : q = b
    · subst e; rw [hget_hset_same hb]; rfl
    · rw [hget_hset_other e]; exact h.dom q L' hq
  · intro q o' hq
    by_cases e : q = b
    · subst e
      rw [hget_hset_same hb] at hq
      cases hq
      exact ⟨L, hL, h2, by simpa using h3, fs', by simp [h3], he⟩
    · rw [hget_hset_other e] at hq
      obtain ⟨L', k1, k2, k3, k4⟩ := h.obj q o' hq
      refine ⟨L', k1, k2, by simpa using k3, ?_⟩
      cases hd : isDead o' with
      | true => cases o' <;> first | trivial | cases hd
      | false => exact k4.mono (Ext.refl _) (other _ fun e' => e (h.inj q b o' _ L' L hq hb hd rfl k1 hL e'))
  · intro q q' o1 o2 M M' hq hq' hd hd' hM hM' hx
    have lift : ∀ j oj, hget (hset H b (.map es' k')) j = some oj → isDead oj = false → ∃ oj', hget H j = some oj' ∧ isDead oj' = false := fun j oj hj hdj => by
      by_cases e : j = b
      · subst e; exact ⟨_, hb, rfl⟩
      · rw [hget_hset_other e] at hj; exact ⟨oj, hj, hdj⟩
    obtain ⟨p1, q1, r1⟩ := lift q o1 hq hd
    obtain ⟨p2, q2, r2⟩ := lift q' o2 hq' hd'
    exact h.inj q q' p1 p2 M M' q1 q2 r1 r2 hM hM' hx
  · intro q o' M hq hd hn hM
    simp at hn
    rw [hget_hset_other hn]
    exact ⟨hq, other _ fun e' => hn (h.inj q b o' _ M L hq hb hd rfl hM hL e')⟩
end
end Go.Proofs.Ytmcefodfppdajaa.Sim

/- Symbolic run: maps that are made and written. No program is named here. -/
set_option linter.unusedSimpArgs false
namespace Go.Proofs.Ytmcefodfppdajaa.Sim
open Go Go.RowKit Go.WideShapes

noncomputable section
variable {P : Program}
def smakeMap (nm : Nat) (H : Heap) : Option (Value × Heap) :=
  match hget H nm with
  | none => some (.map (some nm), hins H nm (.map [] 0))
  | some _ => none
theorem smakeMap_ok {n0 : Nat} {ρ : Rn} {H H' : Heap} {W : World} {nm : Nat} {t : TypeId} {v : Value} (hs : smakeMap nm H = some (v, H')) (h : HR P n0 ρ H W) (h0 : n0 ≤ W.heap.size) :
    ∃ ρ' W' v', (Instr.makeMap t none).run P W = .ok v' W' ∧ VR ρ' v v' ∧ Okay P n0 ρ H W H' [] ρ' W' := by
  unfold smakeMap at hs
  split at hs
  · rename_i hn
    cases hs
    obtain ⟨ρ', k1, k2⟩ := h.alloc h0 hn (.map [] 0) (.map #[] 0) 0 0 fun ρ' _ => ⟨#[], World.alloc_heap_new W _, rfl, fun i a b ha => by simp at ha⟩
    exact ⟨ρ', _, .map (some W.heap.size), rfl, .map k1, k2⟩
  · cases hs
theorem EL.get {ρ : Rn} {es : List (Value × Value × Nat)} {fs : List MapEntry} (h : EL ρ es fs) {i : Nat} {e : Value × Value × Nat} (he : es[i]? = some e) : ∃ f, fs[i]? = some f ∧ f.key = e.1 ∧ VR ρ e.2.1 f.val ∧ f.born = e.2.2 := by
  have hi : i < fs.length := by have := (List.getElem?_eq_some_iff.1 he).1; have := h.1; omega
  exact ⟨fs[i], List.getElem?_eq_getElem hi, h.2 i e _ he (List.getElem?_eq_getElem hi)⟩
theorem EL.set {ρ : Rn} {es : List (Value × Value × Nat)} {fs : Array MapEntry} (h : EL ρ es fs.toList) {i : Nat} {e e' : Value × Value × Nat} (_ : es[i]? = some e) {g : MapEntry → MapEntry} (hg : ∀ f, fs[i]? = some f → (g f).key = e'.1 ∧ VR ρ e'.2.1 (g f).val ∧ (g f).born = e'.2.2) : EL ρ (es.set i e') (fs.modify i g).toList := by
  refine ⟨by simpa using h.1, fun j a b ha hb => ?_⟩
  rw [Array.getElem?_toList, Array.getElem?_modify] at hb
  by_cases hij : i = j
  · subst hij
    have hlt := (List.getElem?_eq_some_iff.1 ha).1
    rw [List.length_set] at hlt
    rw [List.getElem?_set_self hlt] at ha
    cases ha
    rw [if_pos rfl] at hb
    cases hf : fs[i]? with
    | none => rw [hf] at hb; cases hb
    | some f =>
      rw [hf] at hb
      cases hb
      exact hg f hf
  · rw [List.getElem?_set_ne hij] at ha
    rw [if_neg hij] at hb
    exact h.2 j a b ha (by rw [Array.getElem?_toList]; exact hb)
theorem EL.push {ρ : Rn} {es : List (Value × Value × Nat)} {fs : Array MapEntry} (h : EL ρ es fs.toList) {e : Value × Value × Nat} {f : MapEntry} (h1 : f.key = e.1) (h2 : VR ρ e.2.1 f.val) (h3 : f.born = e.2.2) : EL ρ (es ++ [e]) (fs.push f).toList := by
  have hl := h.1
  refine ⟨by simp [hl], fun j a b ha hb => ?_⟩
  rw [Array.toList_push] at hb
  rcases Nat.lt_or_ge j es.length with hj | hj
  · rw [List.getElem?_append_left hj] at ha
    rw [List.getElem?_append_left (by omega)] at hb
    exact h.2 j a b ha hb
  · rw [List.getElem?_append_right hj] at ha
    rw [List.getElem?_append_right (by omega)] at hb
    obtain h0 | h0 : j - es.length = 0 ∨ 0 < j - es.length := by omega
    · rw [h0] at ha
      rw [show j - fs.toList.length = 0 by omega] at hb
      simp at ha hb
      subst ha
      subst hb
      exact ⟨h1, h2, h3⟩
    · rw [List.getElem?_eq_none (by simp; omega)] at ha
      cases ha
theorem setMap_run {W : World} {r c : Nat} {fs : Array MapEntry} (o : Obj) (h : W.heap[r]? = some (.map fs c)) : (setObj r o).run P W = .ok () { W with heap := W.heap.setIfInBounds r o } := by simp [setObj, Sem.run, h]
/-- The entries of a map that is there. -/
def sents (m : Value) (H : Heap) : Option (Nat × List (Value × Value × Nat) × Nat) :=
  match m with
  | .map (some b) => match hget H b with
    | some (.map es c) => some (b, es, c)
    | _ => none
  | _ => none
theorem sents_ok {n0 : Nat} {ρ : Rn} {H : Heap} {W : World} {m m' : Value} {b c : Nat} {es : List (Value × Value × Nat)} (hs : sents m H = some (b, es, c)) (hv : VR ρ m m') (h : HR P n0 ρ H W) :
    ∃ L fs, m' = .map (some L.x) ∧ ρ b = some L ∧ hget H b = some (.map es c) ∧ W.heap[L.x]? = some (.map fs c) ∧ EL ρ es fs.toList := by
  unfold sents at hs
  split at hs
  · rename_i b2
    split at hs
    · rename_i es2 c2 hb
      cases hs
      obtain ⟨L, hL, rfl⟩ := hv.map_inv
      obtain ⟨L2, h1, h2, h3, fs, h4, h5⟩ := h.obj _ _ hb
      rw [hL] at h1
      cases h1
      exact ⟨L, fs, rfl, hL, hb, h4, h5⟩
    · cases hs
  · cases hs
def smapUpdate (P : Program) (t : TypeId) (m k v : Value) (H : Heap) : Option (Heap × List Nat) :=
  match und P t, isLit k, sents m H with
  | some (.map kt _), true, some (b, es, c) => match skey P false kt k, pv P (Instr.findKey kt k (ents es)) with
    | true, some (some (i, _)) => match es[i]? with
      | some e => match Instr.sameBits 10000 e.1 k with
        | true => some (hset H b (.map (es.set i (k, v, e.2.2)) c), [b])
        | false => none
      | none => none
    | true, some none => some (hset H b (.map (es ++ [(k, v, c)]) (c + 1)), [b])
    | _, _ => none
  | _, _, _ => none
theorem smapUpdate_ok {n0 : Nat} {ρ : Rn} {H H' : Heap} {W : World} {t : TypeId} {m m' k k' v v' : Value} {wr : List Nat} (hs : smapUpdate P t m k v H = some (H', wr)) (hm : VR ρ m m') (hk : VR ρ k k') (hv : VR ρ v v') (h : HR P n0 ρ H W) :
    ∃ W', (Instr.mapUpdate t m' k' v').run P W = .ok () W' ∧ Okay P n0 ρ H W H' wr ρ W' := by
  unfold smapUpdate at hs
  simp only [inf_eq, und_eq] at hs
  split at hs
  · rename_i kt et b es c ht hl he
    have := hk.lit_eq hl
    subst this
    obtain ⟨L, fs, rfl, hL, hb, hW, hE⟩ := sents_ok he hm h
    split at hs
    · rename_i i u hq hf
      have q1 := skey_run hq W
      obtain ⟨r', g1, g2⟩ := findKey_rel (W := W) hE hf
      split at hs
      · rename_i e hei
        split at hs
        · rename_i hb2
          cases hs
          obtain ⟨f, f1, f2, f3, f4⟩ := hE.get hei
          rw [Array.getElem?_toList] at f1
          rcases g2 with ⟨e1, -⟩ | ⟨i2, v2, v3, e1, rfl, e3⟩
          · cases e1
          · cases e1
            refine ⟨_, ?_, h.mapset hb hL (hE.set hei (e' := (k', v, e.2.2)) (g := fun e => { e with key := k', val := v' }) fun f' hf' => ?_)⟩
            · simp [Instr.mapUpdate, Sem.run_bind, run_underlying ht, run_getObj_map W L.x fs c hW, q1, g1, f1, f2, Instr.keyThatStays, hb2, setMap_run _ hW]
            · rw [f1] at hf'
              cases hf'
              exact ⟨rfl, hv, f4⟩
        · cases hs
      · cases hs
    · rename_i hq hf
      cases hs
      have q1 := skey_run hq W
      obtain ⟨r', g1, g2⟩ := findKey_rel (W := W) hE hf
      rcases g2 with ⟨-, rfl⟩ | ⟨i2, v2, v3, e1, -, -⟩
      · refine ⟨_, ?_, h.mapset hb hL (hE.push (e := (k', v, c)) (f := { key := k', val := v', born := c }) rfl hv rfl)⟩
        simp [Instr.mapUpdate, Sem.run_bind, run_underlying ht, run_getObj_map W L.x fs c hW, q1, g1, setMap_run _ hW]
      · cases e1
    · cases hs
  · cases hs
/-- An entry that is to be changed: its value and its stamp. -/
def smapEntry (P : Program) (t : TypeId) (m k : Value) (H : Heap) : Option (Value × Heap × List Nat) :=
  match und P t, isLit k, sents m H with
  | some (.map kt et), true, some (b, es, c) => match skey P false kt k, pv P (Instr.findKey kt k (ents es)), inf P et with
    | true, some (some (i, v)), _ => match es[i]? with
      | some e => match Instr.sameBits 10000 e.1 k with
        | true => some (.tuple #[v, goInt e.2.2], hset H b (.map (es.set i (k, e.2.1, e.2.2)) c), [b])
        | false => none
      | none => none
    | true, some none, some ti => match ti.zero with
      | some z => match isLit z with
        | true => some (.tuple #[z, goInt c], hset H b (.map (es ++ [(k, z, c)]) (c + 1)), [b])
        | false => none
      | none => none
    | _, _, _ => none
  | _, _, _ => none
theorem smapEntry_ok {n0 : Nat} {ρ : Rn} {H H' : Heap} {W : World} {t : TypeId} {m m' k k' u : Value} {wr : List Nat} (hs : smapEntry P t m k H = some (u, H', wr)) (hm : VR ρ m m') (hk : VR ρ k k') (h : HR P n0 ρ H W) :
    ∃ W' u', (Instr.mapEntry t m' k').run P W = .ok u' W' ∧ VR ρ u u' ∧ Okay P n0 ρ H W H' wr ρ W' := by
  unfold smapEntry at hs
  simp only [inf_eq, und_eq] at hs
  split at hs
  · rename_i kt et b es c ht hl he
    have := hk.lit_eq hl
    subst this
    obtain ⟨L, fs, rfl, hL, hb, hW, hE⟩ := sents_ok he hm h
    split at hs
    · rename_i i v hq hf
      have q1 := skey_run hq W
      obtain ⟨r', g1, g2⟩ := findKey_rel (W := W) hE hf
      split at hs
      · rename_i e hei
        split at hs
        · rename_i hb2
          cases hs
          obtain ⟨f, f1, f2, f3, f4⟩ := hE.get hei
          rw [Array.getElem?_toList] at f1
          rcases g2 with ⟨e1, -⟩ | ⟨i2, v2, v3, e1, rfl, e3⟩
          · cases e1
          · cases e1
            refine ⟨_, .tuple #[v3, goInt e.2.2], ?_, VR.tuple_ (xs := [v, goInt e.2.2]) (ys := [v3, goInt e.2.2]) (LR.cons e3 (LR.cons (.lit rfl) (LR.nil ρ))), h.mapset hb hL (hE.set hei (e' := (k', e.2.1, e.2.2)) (g := fun e => { e with key := k' }) fun f' hf' => ?_)⟩
            · simp [Instr.mapEntry, Sem.run_bind, run_underlying ht, run_getObj_map W L.x fs c hW, q1, g1, f1, f2, f4, Instr.keyThatStays, hb2, setMap_run _ hW]
            · rw [f1] at hf'
              cases hf'
              exact ⟨rfl, f3, f4⟩
        · cases hs
      · cases hs
    · rename_i ti hq hf hi
      split at hs
      · rename_i z hz
        split at hs
        · rename_i hzl
          cases hs
          have q1 := skey_run hq W
          obtain ⟨r', g1, g2⟩ := findKey_rel (W := W) hE hf
          rcases g2 with ⟨-, rfl⟩ | ⟨i2, v2, v3, e1, -, -⟩
          · refine ⟨_, .tuple #[z, goInt c], ?_, VR.tuple_ (xs := [z, goInt c]) (ys := [z, goInt c]) (LR.cons (.lit hzl) (LR.cons (.lit rfl) (LR.nil ρ))), h.mapset hb hL (hE.push (e := (k', z, c)) (f := { key := k', val := z, born := c }) rfl (.lit hzl) rfl)⟩
            simp [Instr.mapEntry, Sem.run_bind, run_underlying ht, run_getObj_map W L.x fs c hW, q1, g1, zero_get hi hz, setMap_run _ hW]
          · cases e1
        · cases hs
      · cases hs
    · cases hs
  · cases hs
end
end Go.Proofs.Ytmcefodfppdajaa.Sim

/- Symbolic run: entries that are stored, taken away, counted. No program is named here. -/
set_option linter.unusedSimpArgs false
namespace Go.Proofs.Ytmcefodfppdajaa.Sim
open Go Go.RowKit Go.WideShapes

noncomputable section
variable {P : Program}
theorem EL.borns {ρ : Rn} {es : List (Value × Value × Nat)} {fs : List MapEntry} (h : EL ρ es fs) : fs.map (·.born) = es.map (·.2.2) := by
  refine List.ext_getElem? fun i => ?_
  rw [List.getElem?_map, List.getElem?_map]
  cases he : es[i]? with
  | none =>
    have hl := h.1
    have : fs[i]? = none := by simp at he ⊢; omega
    rw [this]
    rfl
  | some e =>
    obtain ⟨f, h1, -, -, h4⟩ := h.get he
    rw [h1]
    simp [h4]
def sentryStore (m s v : Value) (H : Heap) : Option (Heap × List Nat) :=
  match sents m H, s with
  | some (b, es, c), .int _ n => match (es.map fun e => e.2.2).findIdx? (fun (x : Nat) => (x : Int) == n) with
    | some i => match es[i]? with
      | some e => some (hset H b (.map (es.set i (e.1, v, e.2.2)) c), [b])
      | none => none
    | none => none
  | _, _ => none
theorem sentryStore_ok {n0 : Nat} {ρ : Rn} {H H' : Heap} {W : World} {t : TypeId} {m m' s s' v v' : Value} {wr : List Nat} (hs : sentryStore m s v H = some (H', wr)) (hm : VR ρ m m') (hk : VR ρ s s') (hv : VR ρ v v') (h : HR P n0 ρ H W) :
    ∃ W', (Instr.entryStore t m' s' v').run P W = .ok () W' ∧ Okay P n0 ρ H W H' wr ρ W' := by
  unfold sentryStore at hs
  split at hs
  · rename_i b es c k n he
    have := hk.lit_eq rfl
    subst this
    obtain ⟨L, fs, rfl, hL, hb, hW, hE⟩ := sents_ok he hm h
    split at hs
    · rename_i i hi
      split at hs
      · rename_i e hei
        cases hs
        obtain ⟨f, f1, f2, f3, f4⟩ := hE.get hei
        rw [Array.getElem?_toList] at f1
        have hidx : fs.findIdx? (fun e => (e.born : Int) == n) = some i := by
          rw [← hE.borns, List.findIdx?_map] at hi
          obtain ⟨l⟩ := fs
          rw [List.findIdx?_toArray]
          exact hi
        refine ⟨_, ?_, h.mapset hb hL (hE.set hei (e' := (e.1, v, e.2.2)) (g := fun e => { e with val := v' }) fun f' hf' => ?_)⟩
        · simp [Instr.entryStore, Sem.run_bind, run_getObj_map W L.x fs c hW, asInt, asIntOf, hidx, setMap_run _ hW]
        · rw [f1] at hf'
          cases hf'
          exact ⟨f2, hv, f4⟩
      · cases hs
    · cases hs
  · cases hs
theorem EL.erase {ρ : Rn} {es : List (Value × Value × Nat)} {fs : Array MapEntry} (h : EL ρ es fs.toList) {i : Nat} (hi : i < es.length) : EL ρ (es.eraseIdx i) (fs.eraseIdxIfInBounds i).toList := by
  have hl := h.1
  have hif : i < fs.size := by simp at hl; omega
  rw [Array.eraseIdxIfInBounds, dif_pos hif, Array.toList_eraseIdx]
  refine ⟨by simp [List.length_eraseIdx, hl], fun j a b ha hb => ?_⟩
  rw [List.getElem?_eraseIdx] at ha hb
  split at ha
  · rename_i hj
    rw [if_pos hj] at hb
    exact h.2 j a b ha hb
  · rename_i hj
    rw [if_neg hj] at hb
    exact h.2 (j + 1) a b ha hb
def sdelete (P : Program) (t : TypeId) (m k : Value) (H : Heap) : Option (Value × Heap × List Nat) :=
  match und P t, isLit k, sents m H with
  | some (.map kt _), true, some (b, es, c) => match skey P es.isEmpty kt k, pv P (Instr.findKey kt k (ents es)) with
    | true, some (some (i, _)) => match Nat.ble (i + 1) es.length with
      | true => some (.tuple #[], hset H b (.map (es.eraseIdx i) c), [b])
      | false => none
    | true, some none => some (.tuple #[], hset H b (.map es c), [b])
    | _, _ => none
  | _, _, _ => none
theorem sdelete_ok {n0 : Nat} {ρ : Rn} {H H' : Heap} {W : World} {t tk ty : TypeId} {m m' k k' u : Value} {wr : List Nat} (hs : sdelete P t m k H = some (u, H', wr)) (hm : VR ρ m m') (hk : VR ρ k k') (h : HR P n0 ρ H W) :
    ∃ W', (Builtin.delete_ #[t, tk] ty #[m', k']).run P W = .ok u W' ∧ isLit u = true ∧ Okay P n0 ρ H W H' wr ρ W' := by
  unfold sdelete at hs
  simp only [inf_eq, und_eq] at hs
  split at hs
  · rename_i kt et b es c ht hl he
    have := hk.lit_eq hl
    subst this
    obtain ⟨L, fs, rfl, hL, hb, hW, hE⟩ := sents_ok he hm h
    have hemp : fs.isEmpty = es.isEmpty := by
      have e := hE.1
      rw [← Array.isEmpty_toList]
      cases es <;> cases hf : fs.toList <;> simp [hf] at e ⊢
    split at hs
    · rename_i i v hq hf
      rw [← hemp] at hq
      have q1 := skey_run hq W
      obtain ⟨r', g1, g2⟩ := findKey_rel (W := W) hE hf
      split at hs
      · rename_i hle
        cases hs
        rcases g2 with ⟨e1, -⟩ | ⟨i2, v2, v3, e1, rfl, e3⟩
        · cases e1
        · cases e1
          refine ⟨_, ?_, rfl, h.mapset hb hL (hE.erase (Nat.le_of_ble_eq_true hle))⟩
          simp [Builtin.delete_, Sem.run_bind, run_underlying ht, run_getObj_map W L.x fs c hW, q1, g1, setMap_run _ hW]
      · cases hs
    · rename_i hq hf
      cases hs
      rw [← hemp] at hq
      have q1 := skey_run hq W
      obtain ⟨r', g1, g2⟩ := findKey_rel (W := W) hE hf
      rcases g2 with ⟨-, rfl⟩ | ⟨i2, v2, v3, e1, -, -⟩
      · refine ⟨_, ?_, rfl, h.mapset hb hL hE⟩
        simp [Builtin.delete_, Sem.run_bind, run_underlying ht, run_getObj_map W L.x fs c hW, q1, g1, setMap_run _ hW]
      · cases e1
    · cases hs
  · cases hs
/-- A range over a map begins. -/
def srange (P : Program) (nm : Nat) (t : TypeId) (m : Value) (H : Heap) : Option (Value × Heap) :=
  match und P t, sents m H, hget H nm with
  | some (.map _ _), some (b, _, c), none => some (.pointer (some ⟨nm, 0, none⟩), hins H nm (.iter b c [] c))
  | _, _, _ => none
theorem srange_ok {n0 : Nat} {ρ : Rn} {H H' : Heap} {W : World} {nm : Nat} {t : TypeId} {m m' v : Value} (hs : srange P nm t m H = some (v, H')) (hm : VR ρ m m') (h : HR P n0 ρ H W) (h0 : n0 ≤ W.heap.size) :
    ∃ ρ' W' v', (Instr.range t m').run P W = .ok v' W' ∧ VR ρ' v v' ∧ Okay P n0 ρ H W H' [] ρ' W' := by
  unfold srange at hs
  simp only [inf_eq, und_eq] at hs
  split at hs
  · rename_i kt et b es c ht he hn
    cases hs
    obtain ⟨L, fs, rfl, hL, hb, hW, hE⟩ := sents_ok he hm h
    obtain ⟨ρ', k1, k2⟩ := h.alloc h0 hn (.iter b c [] c) (.mapIter (some L.x) c #[] c) 0 0 fun ρ' hx => ⟨rfl, L, hx _ _ hL, World.alloc_heap_new W _⟩
    exact ⟨ρ', _, _, run_range_map W t kt et L.x fs c ht hW, .ptr k1, k2⟩
  · cases hs
/-- A block that is no row of cells is written. -/
theorem HR.objset {n0 : Nat} {ρ : Rn} {H : Heap} {W : World} (h : HR P n0 ρ H W) {b : Nat} {o oN : SObj} (hb : hget H b = some o) (hdo : isDead o = false) {L : Loc} (hL : ρ b = some L) {O : Obj} (he : OR P ρ { W with heap := W.heap.setIfInBounds L.x O } L oN) :
    Okay P n0 ρ H W (hset H b oN) [b] ρ { W with heap := W.heap.setIfInBounds L.x O } := by
  obtain ⟨L2, h1, h2, h3, g⟩ := h.obj b _ hb
  rw [hL] at h1
  cases h1
  have other : ∀ x, x ≠ L.x → ({ W with heap := W.heap.setIfInBounds L.x O } : World).heap[x]? = W.heap[x]? := fun x hx => by simp [Array.getElem?_setIfInBounds, Ne.symm hx]
  refine ⟨Ext.refl _, ⟨?_, ?_, ?_⟩, ⟨rfl, rfl, rfl, by simp, fun x hx => other x (by omega)⟩, ?_, fun q o' hq hn => by simp at hn; rw [hget_hset_other hn]; exact hq⟩
  · intro q L' hq
    by_cases e : q = b
    · subst e; rw [hget_hset_same hb]; rfl
    · rw [hget_hset_other e]; exact h.dom q L' hq
  · intro q o' hq
    by_cases e : q = b
    · subst e
      rw [hget_hset_same hb] at hq
      cases hq
      exact ⟨L, hL, h2, by simpa using h3, he⟩
    · rw [hget_hset_other e] at hq
      obtain ⟨L', k1, k2, k3, k4⟩ := h.obj q o' hq
      refine ⟨L', k1, k2, by simpa using k3, ?_⟩
      cases hd : isDead o' with
      | true => cases o' <;> first | trivial | cases hd
      | false => exact k4.mono (Ext.refl _) (other _ fun e' => e (h.inj q b o' _ L' L hq hb hd hdo k1 hL e'))
  · intro q q' o1 o2 M M' hq hq' hd hd' hM hM' hx
    have lift : ∀ j oj, hget (hset H b oN) j = some oj → isDead oj = false → ∃ oj', hget H j = some oj' ∧ isDead oj' = false := fun j oj hj hdj => by
      by_cases e : j = b
      · subst e; exact ⟨_, hb, hdo⟩
      · rw [hget_hset_other e] at hj; exact ⟨oj, hj, hdj⟩
    obtain ⟨p1, q1, r1⟩ := lift q o1 hq hd
    obtain ⟨p2, q2, r2⟩ := lift q' o2 hq' hd'
    exact h.inj q q' p1 p2 M M' q1 q2 r1 r2 hM hM' hx
  · intro q o' M hq hd hn hM
    simp at hn
    rw [hget_hset_other hn]
    exact ⟨hq, other _ fun e' => hn (h.inj q b o' _ M L hq hb hd hdo hM hL e')⟩
def sold (since : Nat) (es : List (Value × Value × Nat)) : Bool := es.all fun e => Nat.ble (e.2.2 + 1) since
def sleft (seen : List Nat) (es : List (Value × Value × Nat)) : List (Value × Value × Nat) := es.filter fun e => !seen.any fun x => Nat.beq x e.2.2
/-- The next step of a range over a map of which one entry is left, or none. -/
def snext (it : Value) (str : Bool) (H : Heap) : Option (Value × Heap × List Nat) :=
  match it, str with
  | .pointer (some ⟨b, 0, none⟩), false => match hget H b with
    | some (.iter m since seen c0) => match hget H m, Nat.ble since c0 with
      | some (.map es clk), true => match sold since es, sleft seen es with
        | true, [] => some (.tuple #[.bool false], H, [])
        | true, [e] => match isLit e.1 with
          | true => some (.tuple #[.bool true, e.1, e.2.1], hset H b (.iter m since (seen ++ [e.2.2]) clk), [b])
          | false => none
        | _, _ => none
      | _, _ => none
    | _ => none
  | _, _ => none
theorem any_beq (n : Nat) : ∀ seen : List Nat, (seen.any fun x => Nat.beq x n) = seen.contains n
  | [] => rfl
  | x :: xs => by
    rw [List.any_cons, List.contains_cons, any_beq n xs]
    congr 1
    cases hx : Nat.beq x n with
    | true => have := (beq_of _ _).1 hx; subst this; simp
    | false =>
      symm
      rw [beq_eq_false_iff_ne]
      intro hh
      rw [← hh, Nat.beq_refl] at hx
      cases hx
theorem EL.left {ρ : Rn} {seen : List Nat} : ∀ {es : List (Value × Value × Nat)} {fs : List MapEntry}, EL ρ es fs → EL ρ (sleft seen es) (fs.filter fun f => !seen.toArray.contains f.born)
  | [], [], _ => ⟨rfl, fun i a b ha => by simp [sleft] at ha⟩
  | [], _ :: _, h => by have := h.1; simp at this
  | _ :: _, [], h => by have := h.1; simp at this
  | e :: es, f :: fs, h => by
    have h0 := h.2 0 e f rfl rfl
    have ht : EL ρ es fs := ⟨by have := h.1; simpa using this, fun i a b ha hb => h.2 (i + 1) a b ha hb⟩
    have ih := EL.left (seen := seen) ht
    have hc : (!seen.any fun x => Nat.beq x e.2.2) = (!seen.toArray.contains f.born) := by
      rw [h0.2.2]
      rw [any_beq, List.contains_toArray]
    unfold sleft at ih ⊢
    rw [List.filter_cons, List.filter_cons, ← hc]
    cases (!seen.any fun x => Nat.beq x e.2.2) with
    | false => exact ih
    | true =>
      refine ⟨by simpa using ih.1, fun i a b ha hb => ?_⟩
      cases i with
      | zero => simp at ha hb; subst ha; subst hb; exact h0
      | succ j => exact ih.2 j a b (by simpa using ha) (by simpa using hb)
theorem EL.old {ρ : Rn} {since : Nat} {es : List (Value × Value × Nat)} {fs : List MapEntry} (h : EL ρ es fs) (ho : sold since es = true) : ∀ x ∈ fs, x.born < since := by
  intro x hx
  obtain ⟨i, hi⟩ := List.getElem?_of_mem hx
  have hlt : i < es.length := by have := (List.getElem?_eq_some_iff.1 hi).1; have := h.1; omega
  have hk := h.2 i _ x (List.getElem?_eq_getElem hlt) hi
  unfold sold at ho
  rw [List.all_eq_true] at ho
  have := Nat.le_of_ble_eq_true (ho _ (List.getElem_mem hlt))
  rw [hk.2.2]
  omega
theorem snext_ok {n0 : Nat} {ρ : Rn} {H H' : Heap} {W : World} {it it' u : Value} {str : Bool} {wr : List Nat} (hs : snext it str H = some (u, H', wr)) (hm : VR ρ it it') (h : HR P n0 ρ H W) (ty : TypeId) :
    ∃ W' u', (Instr.next it' str ty).run P W = .ok u' W' ∧ VR ρ u u' ∧ Okay P n0 ρ H W H' wr ρ W' := by
  unfold snext at hs
  split at hs
  · rename_i b
    split at hs
    · rename_i m since seen c0 hb
      split at hs
      · rename_i es clk hmm hle
        obtain ⟨L, hL, rfl⟩ := hm.ptr_inv
        obtain ⟨L2, h1, h2, h3, hs0, M, h4, h5⟩ := h.obj _ _ hb
        rw [hL] at h1
        cases h1
        obtain ⟨M2, g1, g2, g3, fs, g4, g5⟩ := h.obj _ _ hmm
        rw [h4] at g1
        cases g1
        rw [hs0]
        have hlf : ∀ x, x ∈ (leftOf fs seen.toArray).toList ↔ x ∈ fs.toList.filter fun f => !seen.toArray.contains f.born := fun x => by
          unfold leftOf
          rw [Array.toList_filter]
        have hsz : (leftOf fs seen.toArray).size = (fs.toList.filter fun f => !seen.toArray.contains f.born).length := by
          unfold leftOf
          rw [← Array.length_toList, Array.toList_filter]
        split at hs
        · rename_i ho hl
          cases hs
          have q := EL.left (seen := seen) g5
          rw [hl] at q
          rcases run_next_at (P := P) W ty L.x M.x since c0 seen.toArray fs clk h5 g4 (EL.old g5 ho) (Nat.le_of_ble_eq_true hle) with ⟨-, k⟩ | ⟨e, he, -⟩
          · exact ⟨W, _, k, .lit rfl, Okay.refl h⟩
          · rw [hlf] at he
            have := q.1
            rw [List.eq_nil_of_length_eq_zero this.symm] at he
            cases he
        · rename_i e ho hl
          split at hs
          · rename_i hkl
            cases hs
            have q := EL.left (seen := seen) g5
            rw [hl] at q
            rcases run_next_at (P := P) W ty L.x M.x since c0 seen.toArray fs clk h5 g4 (EL.old g5 ho) (Nat.le_of_ble_eq_true hle) with ⟨k, -⟩ | ⟨f, hf, W1, hW1, k⟩
            · rw [hsz] at k
              have := q.1
              rw [k] at this
              cases this
            · rw [hlf] at hf
              have hfe : f.key = e.1 ∧ VR ρ e.2.1 f.val ∧ f.born = e.2.2 := by
                obtain ⟨i, hi⟩ := List.getElem?_of_mem hf
                have hi0 : i = 0 := by
                  have hlt := (List.getElem?_eq_some_iff.1 hi).1
                  have hq1 := q.1
                  rw [← hq1] at hlt
                  exact Nat.lt_one_iff.1 hlt
                subst hi0
                exact q.2 0 e f rfl hi
              have hH1 : Okay P n0 ρ H W H [] ρ W1 := by
                rcases hW1 with rfl | rfl
                · exact Okay.refl h
                · exact ⟨Ext.refl _, h.drew, ⟨rfl, rfl, rfl, Nat.le_refl _, fun _ _ => rfl⟩, fun _ _ _ a _ _ _ => ⟨a, rfl⟩, fun _ _ a _ => a⟩
              have h5' : W1.heap[L.x]? = W.heap[L.x]? := by rcases hW1 with rfl | rfl <;> rfl
              have h3' : L.x < W1.heap.size := by rcases hW1 with rfl | rfl <;> exact h3
              have st := hH1.hr.objset hb rfl hL (O := .mapIter (some M.x) since (seen.toArray.push f.born) clk) (oN := .iter m since (seen ++ [e.2.2]) clk) ⟨hs0, M, h4, by rw [hfe.2.2]; simp [h3']⟩
              refine ⟨_, _, k, ?_, ?_⟩
              · rw [hfe.1]
                exact VR.tuple_ (xs := [.bool true, e.1, e.2.1]) (ys := [.bool true, e.1, f.val]) (LR.cons (.lit rfl) (LR.cons (.lit hkl) (LR.cons hfe.2.1 (LR.nil ρ))))
              · exact hH1.trans st
          · cases hs
        · cases hs
      · cases hs
    · cases hs
  · cases hs
theorem EL.find {ρ : Rn} (st : Nat) : ∀ {es : List (Value × Value × Nat)} {fs : List MapEntry} {e : Value × Value × Nat}, EL ρ es fs → es.find? (fun e => Nat.beq e.2.2 st) = some e → ∃ f, fs.find? (fun f => f.born == st) = some f ∧ f.key = e.1 ∧ VR ρ e.2.1 f.val
  | [], _, _, _, he => by simp at he
  | _ :: _, [], _, h, _ => by have := h.1; simp at this
  | x :: es, f :: fs, e, h, he => by
    have h0 := h.2 0 x f rfl rfl
    have ht : EL ρ es fs := ⟨by have := h.1; simpa using this, fun i a b ha hb => h.2 (i + 1) a b ha hb⟩
    rw [List.find?_cons] at he
    rw [List.find?_cons]
    cases hx : Nat.beq x.2.2 st with
    | true =>
      rw [hx] at he
      cases he
      have hb : (f.born == st) = true := by rw [h0.2.2, (beq_of _ _).1 hx]; simp
      rw [hb]
      exact ⟨f, rfl, h0.1, h0.2.1⟩
    | false =>
      rw [hx] at he
      have hb : (f.born == st) = false := by
        rw [beq_eq_false_iff_ne, h0.2.2]
        intro hh
        rw [hh, Nat.beq_refl] at hx
        cases hx
      rw [hb]
      exact EL.find st ht he
/-- What the last step of a range over a map has brought. -/
def sentry (it : Value) (H : Heap) : Option Value :=
  match it with
  | .pointer (some ⟨b, 0, none⟩) => match hget H b with
    | some (.iter m _ seen c0) => match hget H m, seen.getLast? with
      | some (.map es clk), some st => match Nat.beq clk c0, es.find? (fun e => Nat.beq e.2.2 st) with
        | true, some e => match isLit e.1 with
          | true => some (.tuple #[e.1, e.2.1])
          | false => none
        | _, _ => none
      | _, _ => none
    | _ => none
  | _ => none
theorem sentry_ok {n0 : Nat} {ρ : Rn} {H : Heap} {W : World} {it it' u : Value} (hs : sentry it H = some u) (hm : VR ρ it it') (h : HR P n0 ρ H W) :
    ∃ u', (Instr.entry it').run P W = .ok u' W ∧ VR ρ u u' := by
  unfold sentry at hs
  split at hs
  · rename_i b
    split at hs
    · rename_i m since seen c0 hb
      split at hs
      · rename_i es clk st hmm hl
        split at hs
        · rename_i e hc hf
          split at hs
          · rename_i hkl
            cases hs
            obtain ⟨L, hL, rfl⟩ := hm.ptr_inv
            obtain ⟨L2, h1, h2, h3, hs0, M, h4, h5⟩ := h.obj _ _ hb
            rw [hL] at h1
            cases h1
            obtain ⟨M2, g1, g2, g3, fs, g4, g5⟩ := h.obj _ _ hmm
            rw [h4] at g1
            cases g1
            rw [hs0]
            obtain ⟨f, f1, f2, f3⟩ := EL.find st g5 hf
            rw [Array.find?_toList] at f1
            have hbk : seen.toArray.back? = some st := by simpa using hl
            have hcc : (clk != c0) = false := by rw [(beq_of _ _).1 hc]; simp
            refine ⟨.tuple #[f.key, f.val], ?_, ?_⟩
            · simp only [Instr.entry, getObj, Sem.run_bind, Sem.run, h5, g4, Result.andThen, hbk, hcc, Bool.false_eq_true, if_false, f1]
              rfl
            · rw [f2]
              exact VR.tuple_ (xs := [e.1, e.2.1]) (ys := [e.1, f.val]) (LR.cons (.lit hkl) (LR.cons f3 (LR.nil ρ)))
          · cases hs
        · cases hs
      · cases hs
    · cases hs
  · cases hs
end
end Go.Proofs.Ytmcefodfppdajaa.Sim
