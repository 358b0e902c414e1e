/- Trees instead of lists, for a quick run: frames, tables. No program is named here. -/
import Derived.Test.YtfnphhmcbdoojaaGreatDoorSimA
namespace Go.Proofs.YtfnphhmcbdoojaaGreatDoor.Sim
open Go Go.RowKit Go.WideShapes

noncomputable section
inductive Tr (α : Type) where
  | nil
  | leaf (v : α)
  | node (h : Nat) (l r : Tr α)
def Tr.toL {α : Type} : Tr α → List α
  | .nil => []
  | .leaf v => [v]
  | .node _ l r => l.toL ++ r.toL
def Tr.ok {α : Type} : Tr α → Prop
  | .nil => True
  | .leaf _ => True
  | .node h l r => h = l.toL.length ∧ l.ok ∧ r.ok
def Tr.get {α : Type} (d : α) (t : Tr α) : Nat → α := Tr.rec (motive := fun _ => Nat → α) (fun _ => d) (fun v i => Bool.rec d v (Nat.beq i 0)) (fun h _ _ gl gr i => Bool.rec (gl i) (gr (Nat.sub i h)) (Nat.ble h i)) t
def Tr.set {α : Type} (v : α) (t : Tr α) : Nat → Tr α := Tr.rec (motive := fun _ => Nat → Tr α) (fun _ => .nil) (fun u i => Bool.rec (.leaf u) (.leaf v) (Nat.beq i 0)) (fun h l r gl gr i => Bool.rec (.node h (gl i) r) (.node h l (gr (Nat.sub i h))) (Nat.ble h i)) t
theorem Tr.get_nil {α : Type} (d : α) (i : Nat) : (Tr.nil : Tr α).get d i = d := rfl
theorem Tr.get_leaf {α : Type} (d v : α) (i : Nat) : (Tr.leaf v).get d i = if i = 0 then v else d := by
  show (Bool.rec d v (Nat.beq i 0) : α) = _
  cases i <;> rfl
theorem Tr.get_node {α : Type} (d : α) (h : Nat) (l r : Tr α) (i : Nat) : (Tr.node h l r).get d i = if h ≤ i then r.get d (i - h) else l.get d i := by
  show (Bool.rec (l.get d i) (r.get d (i - h)) (Nat.ble h i) : α) = _
  cases hb : Nat.ble h i with
  | true => rw [if_pos (Nat.le_of_ble_eq_true hb)]
  | false => rw [if_neg fun hle => by rw [Nat.ble_eq_true_of_le hle] at hb; cases hb]
theorem Tr.set_nil {α : Type} (v : α) (i : Nat) : (Tr.nil : Tr α).set v i = .nil := rfl
theorem Tr.set_leaf {α : Type} (v u : α) (i : Nat) : (Tr.leaf u).set v i = if i = 0 then .leaf v else .leaf u := by
  show (Bool.rec (.leaf u) (.leaf v) (Nat.beq i 0) : Tr α) = _
  cases i <;> rfl
theorem Tr.set_node {α : Type} (v : α) (h : Nat) (l r : Tr α) (i : Nat) : (Tr.node h l r).set v i = if h ≤ i then .node h l (r.set v (i - h)) else .node h (l.set v i) r := by
  show (Bool.rec (.node h (l.set v i) r) (.node h l (r.set v (i - h))) (Nat.ble h i) : Tr α) = _
  cases hb : Nat.ble h i with
  | true => rw [if_pos (Nat.le_of_ble_eq_true hb)]
  | false => rw [if_neg fun hle => by rw [Nat.ble_eq_true_of_le hle] at hb; cases hb]
theorem Tr.get_eq {α : Type} (d : α) : ∀ {t : Tr α}, t.ok → ∀ i, t.get d i = (t.toL[i]?).getD d
  | .nil, _, i => by simp [Tr.get_nil, Tr.toL]
  | .leaf v, _, i => by rw [Tr.get_leaf]; cases i <;> simp [Tr.toL]
  | .node h l r, ⟨e, hl, hr⟩, i => by
    rw [Tr.get_node]
    simp only [Tr.toL]
    split
    · rename_i hi
      rw [Tr.get_eq d hr, List.getElem?_append_right (by omega), e]
    · rename_i hi
      rw [Tr.get_eq d hl, List.getElem?_append_left (by omega)]
theorem Tr.set_eq {α : Type} (v : α) : ∀ {t : Tr α}, t.ok → ∀ i, (t.set v i).ok ∧ (t.set v i).toL = t.toL.set i v
  | .nil, _, i => by simp [Tr.set_nil, Tr.toL, Tr.ok]
  | .leaf u, _, i => by rw [Tr.set_leaf]; cases i <;> simp [Tr.toL, Tr.ok]
  | .node h l r, ⟨e, hl, hr⟩, i => by
    rw [Tr.set_node]
    simp only [Tr.toL]
    split
    · rename_i hi
      obtain ⟨h1, h2⟩ := Tr.set_eq v hr (i - h)
      refine ⟨⟨e, hl, h1⟩, ?_⟩
      simp only [Tr.toL]
      rw [h2, List.set_append_right _ _ (by omega), e]
    · rename_i hi
      obtain ⟨h1, h2⟩ := Tr.set_eq v hl i
      refine ⟨⟨by rw [h2, List.length_set]; exact e, h1, hr⟩, ?_⟩
      simp only [Tr.toL]
      rw [h2, List.set_append_left _ _ (by omega)]
/-- The first n of a list. -/
def bld {α : Type} : Nat → Nat → List α → Tr α
  | 0, _, _ => .nil
  | f + 1, n, l => match n with
    | 0 => .nil
    | 1 => match l with
      | [] => .nil
      | x :: _ => .leaf x
    | n + 2 => .node ((n + 2) / 2) (bld f ((n + 2) / 2) l) (bld f ((n + 2) - (n + 2) / 2) (l.drop ((n + 2) / 2)))
theorem bld_eq {α : Type} : ∀ (f n : Nat) (l : List α), n ≤ f → n ≤ l.length → (bld f n l).ok ∧ (bld f n l).toL = l.take n
  | 0, n, l, h1, h2 => by
    have : n = 0 := by omega
    subst this
    simp [bld, Tr.ok, Tr.toL]
  | f + 1, 0, l, h1, h2 => by simp [bld, Tr.ok, Tr.toL]
  | f + 1, 1, [], h1, h2 => by simp at h2
  | f + 1, 1, x :: r, h1, h2 => by simp [bld, Tr.ok, Tr.toL]
  | f + 1, n + 2, l, h1, h2 => by
    obtain ⟨a1, a2⟩ := bld_eq f ((n + 2) / 2) l (by omega) (by omega)
    obtain ⟨b1, b2⟩ := bld_eq f ((n + 2) - (n + 2) / 2) (l.drop ((n + 2) / 2)) (by omega) (by rw [List.length_drop]; omega)
    simp only [bld]
    refine ⟨⟨?_, a1, b1⟩, ?_⟩
    · rw [a2, List.length_take]; omega
    · simp only [Tr.toL, a2, b2]
      rw [← List.take_add]
      congr 1
      omega
def tab {α : Type} (l : List α) : Tr α := bld l.length l.length l
theorem tab_get {α : Type} (d : α) (l : List α) (i : Nat) : (tab l).get d i = (l[i]?).getD d := by
  obtain ⟨h1, h2⟩ := bld_eq l.length l.length l (Nat.le_refl _) (Nat.le_refl _)
  unfold tab
  rw [Tr.get_eq d h1, h2, List.take_length]
/-- n times the same. -/
def rep {α : Type} (v : α) : Nat → Nat → Tr α
  | 0, _ => .nil
  | f + 1, n => match n with
    | 0 => .nil
    | 1 => .leaf v
    | n + 2 => .node ((n + 2) / 2) (rep v f ((n + 2) / 2)) (rep v f ((n + 2) - (n + 2) / 2))
theorem rep_eq {α : Type} (v : α) : ∀ (f n : Nat), n ≤ f → (rep v f n).ok ∧ (rep v f n).toL = List.replicate n v
  | 0, n, h => by
    have : n = 0 := by omega
    subst this
    simp [rep, Tr.ok, Tr.toL]
  | f + 1, 0, h => by simp [rep, Tr.ok, Tr.toL]
  | f + 1, 1, h => by simp [rep, Tr.ok, Tr.toL]
  | f + 1, n + 2, h => by
    obtain ⟨a1, a2⟩ := rep_eq v f ((n + 2) / 2) (by omega)
    obtain ⟨b1, b2⟩ := rep_eq v f ((n + 2) - (n + 2) / 2) (by omega)
    simp only [rep]
    refine ⟨⟨?_, a1, b1⟩, ?_⟩
    · rw [a2, List.length_replicate]
    · simp only [Tr.toL, a2, b2]
      rw [List.replicate_append_replicate]
      congr 1
      omega
def putAll {α : Type} : Nat → List α → Tr α → Tr α
  | _, [], t => t
  | i, b :: r, t => putAll (i + 1) r (t.set b i)
theorem putAll_eq {α : Type} (u : α) : ∀ {bs pre : List α} {m : Nat} {t : Tr α}, t.ok → t.toL = pre ++ List.replicate m u → bs.length ≤ m → (putAll pre.length bs t).ok ∧ (putAll pre.length bs t).toL = pre ++ bs ++ List.replicate (m - bs.length) u
  | [], pre, m, t, h, e, _ => by simp [putAll, h, e]
  | b :: r, pre, m, t, h, e, hm => by
    simp only [List.length_cons] at hm
    obtain ⟨h1, h2⟩ := Tr.set_eq b h pre.length
    obtain ⟨k, rfl⟩ : ∃ k, m = k + 1 := ⟨m - 1, by omega⟩
    have h3 : (t.set b pre.length).toL = (pre ++ [b]) ++ List.replicate k u := by
      rw [h2, e, List.replicate_succ]
      simp
    have := putAll_eq u (bs := r) (pre := pre ++ [b]) (m := k) h1 h3 (by omega)
    simp only [List.length_append, List.length_cons, List.length_nil] at this
    simp only [putAll]
    refine ⟨this.1, ?_⟩
    rw [this.2]
    simp
def frame0 (bs : List Value) (n : Nat) : Tr Value := putAll 0 bs (rep undef n n)
theorem frame0_eq {bs : List Value} {n : Nat} (h : bs.length ≤ n) : (frame0 bs n).ok ∧ (frame0 bs n).toL = bs ++ List.replicate (n - bs.length) undef := by
  obtain ⟨h1, h2⟩ := rep_eq undef n n (Nat.le_refl n)
  have := putAll_eq undef (bs := bs) (pre := []) (m := n) h1 (by simpa using h2) h
  simpa [frame0] using this
/-- A frame that reads as the list. -/
def FR (ρ : Rn) (t : Tr Value) (l : List Value) : Prop := t.ok ∧ LR ρ t.toL l
theorem FR.mono {ρ ρ' : Rn} (hx : Ext ρ ρ') {t : Tr Value} {l : List Value} (h : FR ρ t l) : FR ρ' t l := ⟨h.1, h.2.mono hx⟩
theorem FR.set {ρ : Rn} {t : Tr Value} {l : List Value} (h : FR ρ t l) (i : Nat) {v v' : Value} (hv : VR ρ v v') : FR ρ (t.set v i) (l.set i v') := by
  obtain ⟨h1, h2⟩ := Tr.set_eq v h.1 i
  refine ⟨h1, ?_⟩
  rw [h2]
  exact h.2.set i hv
theorem FR.get {ρ : Rn} {t : Tr Value} {l : List Value} (h : FR ρ t l) (i : Nat) : VR ρ (t.get undef i) ((l[i]?).getD undef) := by
  rw [Tr.get_eq undef h.1]
  cases hv : t.toL[i]? with
  | none =>
    have h1 : t.toL.length ≤ i := by simpa using hv
    have h2 : l[i]? = none := by
      have := h.2.1
      simp at this ⊢
      omega
    rw [h2]
    exact .lit rfl
  | some v =>
    obtain ⟨v', k1, k2⟩ := h.2.get hv
    rw [k1]
    exact k2
/-- Tables of a program. -/
def infT (P : Program) : Tr (Option TypeInfo) := tab (P.types.toList.map some)
def inf (P : Program) (t : TypeId) : Option TypeInfo :=
  match (infT P).get none t with
  | some i => some i
  | none => P.info? t
def und (P : Program) (t : TypeId) : Option TypeDesc :=
  match inf P t with
  | some i => match i.desc with
    | .named _ u => (inf P u).map (·.desc)
    | d => some d
  | none => none
theorem inf_eq (P : Program) (t : TypeId) : inf P t = P.info? t := by
  unfold inf
  split
  · rename_i i h
    unfold infT at h
    rw [tab_get, List.getElem?_map] at h
    cases hv : P.types.toList[t]? with
    | none => rw [hv] at h; cases h
    | some j =>
      rw [hv] at h
      cases h
      have hlt : t < P.types.size := by simpa using (List.getElem?_eq_some_iff.1 hv).1
      unfold Tables.info?
      rw [if_pos hlt, ← Array.getElem?_toList, hv]
  · rfl
theorem und_eq (P : Program) (t : TypeId) : und P t = P.underlying t := by
  unfold und Program.underlying
  rw [inf_eq]
  cases hi : P.info? t with
  | none => rfl
  | some i =>
    obtain ⟨d⟩ := i
    cases d <;> first
      | rfl
      | (simp only [inf_eq])
def funT (P : Program) : Tr (Option Func) := tab (P.funcs.toList.map some)
def fun1 (P : Program) (f : FuncId) : Option Func := (funT P).get none f
theorem fun1_eq (P : Program) (f : FuncId) : fun1 P f = P.funcs[f]? := by
  unfold fun1 funT
  rw [tab_get, List.getElem?_map, Array.getElem?_toList]
  cases P.funcs[f]? <;> rfl
end

end Go.Proofs.YtfnphhmcbdoojaaGreatDoor.Sim
