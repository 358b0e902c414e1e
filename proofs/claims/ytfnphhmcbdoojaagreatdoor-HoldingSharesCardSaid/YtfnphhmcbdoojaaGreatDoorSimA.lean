/- A call whose arguments are known is carried out symbolically: values, places, what a run needs. No program is named here. -/
import Derived.WalkKit
import Derived.OrdersHeld
import Derived.LoopN
import Derived.Below
namespace Go.Proofs.YtfnphhmcbdoojaaGreatDoor.Sim
open Go Go.RowKit

/-- Where a named block lies: block, first cell, number of cells, cells of an element. -/
structure Loc where
  x : Nat
  s : Nat
  n : Nat
  sz : Nat
abbrev Rn := Nat → Option Loc
def Ext (ρ ρ' : Rn) : Prop := ∀ b L, ρ b = some L → ρ' b = some L
theorem Ext.refl (ρ : Rn) : Ext ρ ρ := fun _ _ h => h
theorem Ext.trans {a b c : Rn} (h : Ext a b) (k : Ext b c) : Ext a c := fun _ _ e => k _ _ (h _ _ e)
/-- The capacity of a slice that nobody knows. -/
def UNK : Nat := 9223372036854775808

def cellLit : Value → Bool
  | .bool _ => true
  | .int _ _ => true
  | .float _ _ => true
  | .complex _ _ _ => true
  | .string _ => true
  | .pointer none => true
  | .map none => true
  | .chan none => true
  | .nilFunc => true
  | .nilIface => true
  | .slice none _ _ => true
  | .func (.func _) first captured => first.toList.isEmpty && captured.toList.isEmpty
  | _ => false
def aggLit : Value → Bool
  | .agg cs => cs.toList.all cellLit
  | v => cellLit v
def isLit : Value → Bool
  | .tuple vs => vs.toList.all aggLit
  | v => aggLit v
theorem aggLit_of_cell {v : Value} (h : cellLit v = true) : aggLit v = true := by cases v <;> simp_all [cellLit, aggLit]
theorem isLit_of_agg {v : Value} (h : aggLit v = true) : isLit v = true := by cases v <;> simp_all [cellLit, aggLit, isLit]
theorem isLit_of_cell {v : Value} (h : cellLit v = true) : isLit v = true := isLit_of_agg (aggLit_of_cell h)

/-- A value of the run with names, and what it is in memory. -/
inductive VR (ρ : Rn) : Value → Value → Prop
  | lit {v : Value} (h : isLit v = true) : VR ρ v v
  | ptr {b o : Nat} {L : Loc} (h : ρ b = some L) : VR ρ (.pointer (some ⟨b, o, none⟩)) (.pointer (some ⟨L.x, L.s + o, none⟩))
  | slice {b o n c : Nat} {L : Loc} (h : ρ b = some L) (hc : c ≠ UNK) : VR ρ (.slice (some ⟨b, o, none⟩) n c) (.slice (some ⟨L.x, L.s + o, none⟩) n c)
  | sliceU {b o n c' : Nat} {L : Loc} (h : ρ b = some L) (h1 : n ≤ c') (h2 : c' < UNK) (h3 : o = 0 → c' * L.sz ≤ L.n) : VR ρ (.slice (some ⟨b, o, none⟩) n UNK) (.slice (some ⟨L.x, L.s + o, none⟩) n c')
  | map {b : Nat} {L : Loc} (h : ρ b = some L) : VR ρ (.map (some b)) (.map (some L.x))
  | func {f : FuncId} {as as' cs cs' : Array Value} (h1 : as.size = as'.size) (h2 : ∀ (i : Nat) (v v' : Value), as[i]? = some v → as'[i]? = some v' → VR ρ v v') (h3 : cs.size = cs'.size) (h4 : ∀ (i : Nat) (v v' : Value), cs[i]? = some v → cs'[i]? = some v' → VR ρ v v') : VR ρ (.func (.func f) as cs) (.func (.func f) as' cs')
  | agg {cs cs' : Array Value} (h1 : cs.size = cs'.size) (h2 : ∀ (i : Nat) (v v' : Value), cs[i]? = some v → cs'[i]? = some v' → VR ρ v v') : VR ρ (.agg cs) (.agg cs')
  | tuple {cs cs' : Array Value} (h1 : cs.size = cs'.size) (h2 : ∀ (i : Nat) (v v' : Value), cs[i]? = some v → cs'[i]? = some v' → VR ρ v v') : VR ρ (.tuple cs) (.tuple cs')
theorem VR.mono {ρ ρ' : Rn} (hx : Ext ρ ρ') {v v' : Value} (h : VR ρ v v') : VR ρ' v v' := by
  induction h with
  | lit h => exact .lit h
  | ptr h => exact .ptr (hx _ _ h)
  | slice h hc => exact .slice (hx _ _ h) hc
  | sliceU h h1 h2 h3 => exact .sliceU (hx _ _ h) h1 h2 h3
  | map h => exact .map (hx _ _ h)
  | func h1 _ h3 _ i1 i2 => exact .func h1 i1 h3 i2
  | agg h1 _ i1 => exact .agg h1 i1
  | tuple h1 _ i1 => exact .tuple h1 i1
theorem all_get {p : Value → Bool} {cs : Array Value} (h : cs.toList.all p = true) {i : Nat} {v : Value} (hv : cs[i]? = some v) : p v = true :=
  List.all_eq_true.1 h v (by rw [← Array.getElem?_toList] at hv; exact List.mem_of_getElem? hv)
theorem arr_eq {cs cs' : Array Value} (h1 : cs.size = cs'.size) (h : ∀ (i : Nat) (v v' : Value), cs[i]? = some v → cs'[i]? = some v' → v' = v) : cs' = cs := by
  refine Array.ext h1.symm fun i h2 h3 => ?_
  exact h i _ _ (Array.getElem?_eq_getElem h3) (Array.getElem?_eq_getElem h2)
theorem size_zero_of {cs : Array Value} (h : cs.toList.isEmpty = true) : cs = #[] := by
  have : cs.toList = [] := by simpa using h
  simpa using this
theorem VR.lit_eq {ρ : Rn} {v v' : Value} (h : VR ρ v v') : isLit v = true → v' = v := by
  induction h with
  | lit _ => exact fun _ => rfl
  | ptr _ => intro h; simp [isLit, aggLit, cellLit] at h
  | slice _ _ => intro h; simp [isLit, aggLit, cellLit] at h
  | sliceU _ _ _ _ => intro h; simp [isLit, aggLit, cellLit] at h
  | map _ => intro h; simp [isLit, aggLit, cellLit] at h
  | func h1 _ h3 _ _ _ =>
    intro h
    simp only [isLit, aggLit, cellLit, Bool.and_eq_true] at h
    obtain ⟨ha, hb⟩ := h
    have ea := size_zero_of ha
    have eb := size_zero_of hb
    subst ea eb
    have ea' := Array.eq_empty_of_size_eq_zero (by simpa using h1.symm)
    have eb' := Array.eq_empty_of_size_eq_zero (by simpa using h3.symm)
    rw [ea', eb']
  | agg h1 _ ih =>
    intro h
    simp only [isLit, aggLit] at h
    rw [arr_eq h1 fun i v v' hv hv' => ih i v v' hv hv' (isLit_of_cell (all_get h hv))]
  | tuple h1 _ ih =>
    intro h
    simp only [isLit] at h
    rw [arr_eq h1 fun i v v' hv hv' => ih i v v' hv hv' (isLit_of_agg (all_get h hv))]

/-- Lists of values. -/
def LR (ρ : Rn) (xs ys : List Value) : Prop := xs.length = ys.length ∧ ∀ (i : Nat) (v v' : Value), xs[i]? = some v → ys[i]? = some v' → VR ρ v v'
theorem LR.mono {ρ ρ' : Rn} (hx : Ext ρ ρ') {xs ys : List Value} (h : LR ρ xs ys) : LR ρ' xs ys := ⟨h.1, fun i v v' a b => (h.2 i v v' a b).mono hx⟩
theorem LR.get {ρ : Rn} {xs ys : List Value} (h : LR ρ xs ys) {i : Nat} {v : Value} (hv : xs[i]? = some v) : ∃ v', ys[i]? = some v' ∧ VR ρ v v' := by
  have hi : i < xs.length := (List.getElem?_eq_some_iff.1 hv).1
  have hi' : i < ys.length := by have := h.1; omega
  exact ⟨ys[i], List.getElem?_eq_getElem hi', h.2 i v _ hv (List.getElem?_eq_getElem hi')⟩
theorem LR.nil (ρ : Rn) : LR ρ [] [] := ⟨rfl, fun i v v' h => by simp at h⟩
theorem LR.cons {ρ : Rn} {x y : Value} {xs ys : List Value} (h : VR ρ x y) (t : LR ρ xs ys) : LR ρ (x :: xs) (y :: ys) :=
  ⟨by simp [t.1], fun i v v' a b => by
    cases i with
    | zero => simp at a b; subst a; subst b; exact h
    | succ i => exact t.2 i v v' (by simpa using a) (by simpa using b)⟩
theorem LR.append {ρ : Rn} {xs ys xs2 ys2 : List Value} (h : LR ρ xs ys) (k : LR ρ xs2 ys2) : LR ρ (xs ++ xs2) (ys ++ ys2) :=
  ⟨by simp [h.1, k.1], fun i v v' a b => by
    rcases Nat.lt_or_ge i xs.length with hi | hi
    · rw [List.getElem?_append_left hi] at a
      rw [List.getElem?_append_left (by rw [← h.1]; exact hi)] at b
      exact h.2 i v v' a b
    · rw [List.getElem?_append_right hi] at a
      rw [List.getElem?_append_right (by rw [← h.1]; exact hi), ← h.1] at b
      exact k.2 _ v v' a b⟩
theorem LR.set {ρ : Rn} {xs ys : List Value} (h : LR ρ xs ys) (i : Nat) {v v' : Value} (hv : VR ρ v v') : LR ρ (xs.set i v) (ys.set i v') :=
  ⟨by simp [h.1], fun j u u' a b => by
    by_cases hij : i = j
    · subst hij
      have la := (List.getElem?_eq_some_iff.1 a).1
      have lb := (List.getElem?_eq_some_iff.1 b).1
      rw [List.length_set] at la lb
      rw [List.getElem?_set_self la] at a
      rw [List.getElem?_set_self lb] at b
      cases a
      cases b
      exact hv
    · rw [List.getElem?_set_ne hij] at a b
      exact h.2 j u u' a b⟩
theorem LR.take {ρ : Rn} {xs ys : List Value} (h : LR ρ xs ys) (n : Nat) : LR ρ (xs.take n) (ys.take n) :=
  ⟨by simp [h.1], fun i v v' a b => by
    rw [List.getElem?_take] at a b
    by_cases hin : i < n
    · rw [if_pos hin] at a b
      exact h.2 i v v' a b
    · rw [if_neg hin] at a
      cases a⟩
theorem LR.drop {ρ : Rn} {xs ys : List Value} (h : LR ρ xs ys) (n : Nat) : LR ρ (xs.drop n) (ys.drop n) :=
  ⟨by simp [h.1], fun i v v' a b => by
    rw [List.getElem?_drop] at a b
    exact h.2 _ v v' a b⟩
theorem LR.repl {ρ : Rn} (n : Nat) {v v' : Value} (h : VR ρ v v') : LR ρ (List.replicate n v) (List.replicate n v') :=
  ⟨by simp, fun i u u' a b => by
    have ea := List.eq_of_mem_replicate (List.mem_of_getElem? a)
    have eb := List.eq_of_mem_replicate (List.mem_of_getElem? b)
    rw [ea, eb]
    exact h⟩
theorem LR.lits {ρ : Rn} {xs : List Value} (h : xs.all isLit = true) : LR ρ xs xs := ⟨rfl, fun i v v' a b => by
  rw [a] at b
  cases b
  exact .lit (List.all_eq_true.1 h v (List.mem_of_getElem? a))⟩
theorem VR.agg_ {ρ : Rn} {xs ys : List Value} (h : LR ρ xs ys) : VR ρ (.agg xs.toArray) (.agg ys.toArray) := .agg (by simpa using h.1) fun i v v' a b => h.2 i v v' (by simpa using a) (by simpa using b)
theorem VR.tuple_ {ρ : Rn} {xs ys : List Value} (h : LR ρ xs ys) : VR ρ (.tuple xs.toArray) (.tuple ys.toArray) := .tuple (by simpa using h.1) fun i v v' a b => h.2 i v v' (by simpa using a) (by simpa using b)
/-- Opening an aggregate, a tuple. -/
theorem VR.agg_inv {ρ : Rn} {cs : Array Value} {v' : Value} (h : VR ρ (.agg cs) v') : ∃ cs', v' = .agg cs' ∧ LR ρ cs.toList cs'.toList := by
  cases h with
  | lit h => exact ⟨cs, rfl, LR.lits (List.all_eq_true.2 fun x hx => isLit_of_cell (List.all_eq_true.1 (by simpa [isLit, aggLit] using h) x hx))⟩
  | agg h1 h2 => exact ⟨_, rfl, by simpa using h1, fun i v v' a b => h2 i v v' (by simpa using a) (by simpa using b)⟩
theorem VR.tuple_inv {ρ : Rn} {cs : Array Value} {v' : Value} (h : VR ρ (.tuple cs) v') : ∃ cs', v' = .tuple cs' ∧ LR ρ cs.toList cs'.toList := by
  cases h with
  | lit h => exact ⟨cs, rfl, LR.lits (List.all_eq_true.2 fun x hx => isLit_of_agg (List.all_eq_true.1 (by simpa [isLit] using h) x hx))⟩
  | tuple h1 h2 => exact ⟨_, rfl, by simpa using h1, fun i v v' a b => h2 i v v' (by simpa using a) (by simpa using b)⟩

/-- What a step yields in whatever memory. -/
def pv (P : Program) {α : Type} : Sem α → Option α
  | .pure a => some a
  | .program k => pv P (k P)
  | .mark _ k => pv P k
  | _ => none
theorem pv_run {P : Program} {α : Type} : ∀ {s : Sem α} {a : α}, pv P s = some a → ∀ W : World, s.run P W = .ok a W
  | .pure _, _, h, W => by simp only [pv, Option.some.injEq] at h; subst h; rfl
  | .program k, _, h, W => by simp only [pv] at h; simp only [Sem.run]; exact pv_run h W
  | .mark _ k, _, h, W => by simp only [pv] at h; simp only [Sem.run]; exact pv_run h W
  | .load .., _, h, _ => by simp [pv] at h
  | .store .., _, h, _ => by simp [pv] at h
  | .new .., _, h, _ => by simp [pv] at h
  | .shape .., _, h, _ => by simp [pv] at h
  | .freeze .., _, h, _ => by simp [pv] at h
  | .frozen .., _, h, _ => by simp [pv] at h
  | .getObj .., _, h, _ => by simp [pv] at h
  | .setObj .., _, h, _ => by simp [pv] at h
  | .choose .., _, h, _ => by simp [pv] at h
  | .sys .., _, h, _ => by simp [pv] at h
  | .halt .., _, h, _ => by simp [pv] at h

end Go.Proofs.YtfnphhmcbdoojaaGreatDoor.Sim
