/- Symbolic run of a region that draws its order. No program is named here. -/
import Derived.Test.YtfnphhmcbdoojaaGreatDoorSimU
namespace Go.Proofs.YtfnphhmcbdoojaaGreatDoor.Sim
open Go Go.RowKit Go.WideShapes

noncomputable section
variable {P : Program}
def wsHas (b : Nat) : List (Nat × Nat) → Bool
  | [] => false
  | (_, c) :: r => match Nat.beq b c with
    | true => true
    | false => wsHas b r
theorem wsHas_no {b : Nat} : ∀ {ws : List (Nat × Nat)}, wsHas b ws = false → b ∉ ws.map (·.2)
  | [], _ => by simp
  | (i, c) :: r, h => by
    simp only [wsHas] at h
    split at h
    · cases h
    · rename_i hc
      have := wsHas_no h
      have hne : b ≠ c := fun e => by subst e; simp [Nat.beq_refl] at hc
      simp at this ⊢
      exact ⟨hne, this⟩
/-- What may be taken first: what yields in whatever memory, and loads of what the region has not written. -/
def takeV (P : Program) (ops : Array Oper) (ws : List (Nat × Nat)) (H0 : Heap) (o : Oper) (tm : Tr Value) (H : Heap) : Option (Option Tmp × Value × Option Nat) :=
  match swant ops o tm with
    | false => some (o.dst, undef, none)
    | true => match sstill P o tm with
      | some v => some (o.dst, v, none)
      | none => match o.op with
        | .load t x => match okx x, sev tm x with
          | true, .pointer (some ⟨b, k, none⟩) => match hget H0 b, wsHas b ws with
            | some ob, false => match isDead ob, sload P t (.pointer (some ⟨b, k, none⟩)) H with
              | false, some v => some (o.dst, v, some b)
              | _, _ => none
            | _, _ => none
          | _, _ => none
        | _ => none
structure Took where
  i : Nat
  p : Nat
  d : Option Tmp
  v : Value
  ld : List (Nat × Nat)
def findT (P : Program) (ops : Array Oper) (T : List Row) (m : Nat) (ws : List (Nat × Nat)) (H0 : Heap) (tm : Tr Value) (H : Heap) : List Row → Option Took
  | [] => none
  | ⟨j, p, _, o⟩ :: r => match takeV P ops ws H0 o tm H with
    | some (d, v, none) => match freeM ops m j o with
      | true => some ⟨j, p, d, v, []⟩
      | false => findT P ops T m ws H0 tm H r
    | some (d, v, some b) => match freeM ops m j o, Nat.beq (Nat.land m (dmask T p)) 0 with
      | true, true => some ⟨j, p, d, v, [(dmask T p, b)]⟩
      | _, _ => findT P ops T m ws H0 tm H r
    | none => findT P ops T m ws H0 tm H r
structure XSt where
  tm : Tr Value
  H : Heap
  wr : List (Nat × Nat)
  tk : Nat
  ld : List (Nat × Nat)
def sameR (r s : XSt) : Bool := teq (veq 9) r.tm s.tm && heq r.H s.H
def addR (wr : List (Nat × Nat)) (tk : Nat) (ld : List (Nat × Nat)) : Option XSt → Option XSt
  | some ⟨tm, H, wr', tk', ld'⟩ => some ⟨tm, H, wr ++ wr', Nat.lor tk tk', ld ++ ld'⟩
  | none => none
/-- The other branches end alike; what they write, take and load. -/
def joinR (f : Row → Option XSt) : List Row → XSt → Option XSt
  | [], r => some r
  | y :: ys, r => match f y with
    | some s => match sameR r s with
      | true => joinR f ys ⟨r.tm, r.H, s.wr ++ r.wr, Nat.lor s.tk r.tk, s.ld ++ r.ld⟩
      | false => none
    | none => none
def pairs (i : Nat) : List Nat → List (Nat × Nat)
  | [] => []
  | b :: r => (i, b) :: pairs i r
theorem pairs_snd (i : Nat) : ∀ l : List Nat, (pairs i l).map (·.2) = l
  | [] => rfl
  | b :: r => by simp [pairs, pairs_snd i r]
theorem pairs_fst {i : Nat} : ∀ {l : List Nat} {q : Nat × Nat}, q ∈ pairs i l → q.1 = i
  | [], q, h => by simp [pairs] at h
  | b :: r, q, h => by
    simp only [pairs, List.mem_cons] at h
    rcases h with rfl | h
    · rfl
    · exact pairs_fst h
def branchR (P : Program) (call : CallF) (ops : Array Oper) (base : Nat) (tm : Tr Value) (H : Heap) (next : List (Nat × Nat) → Nat → Tr Value → Heap → Option XSt) (x : Row) : Option XSt :=
  match runOp P call ops base x.i x.o tm H with
  | some (tm', H', wr') => addR (pairs x.i wr') 0 [] (next (pairs x.i wr') x.p tm' H')
  | none => none
def explore (P : Program) (call : CallF) (ops : Array Oper) (T : List Row) (base : Nat) (H0 : Heap) : Nat → Nat → List (Nat × Nat) → Tr Value → Heap → Option XSt
  | 0, m, _, tm, H => match rdy m T with
    | [] => some ⟨tm, H, [], 0, []⟩
    | _ => none
  | n + 1, m, ws, tm, H => match rdy m T with
    | [] => some ⟨tm, H, [], 0, []⟩
    | [x] => branchR P call ops base tm H (fun w p tm' H' => explore P call ops T base H0 n (Nat.lor m p) (w ++ ws) tm' H') x
    | x :: xs => match findT P ops T m ws H0 tm H (x :: xs) with
      | some ⟨_, p, d, v, ld⟩ => addR [] p ld (explore P call ops T base H0 n (Nat.lor m p) ws (putv d v tm) H)
      | none => match branchR P call ops base tm H (fun w p tm' H' => explore P call ops T base H0 n (Nat.lor m p) (w ++ ws) tm' H') x with
        | some r => joinR (branchR P call ops base tm H (fun w p tm' H' => explore P call ops T base H0 n (Nat.lor m p) (w ++ ws) tm' H')) xs r
        | none => none
theorem addR_some {wr : List (Nat × Nat)} {tk : Nat} {ld : List (Nat × Nat)} {r : Option XSt} {s : XSt} (h : addR wr tk ld r = some s) : ∃ w' t' l', r = some ⟨s.tm, s.H, w', t', l'⟩ ∧ s.wr = wr ++ w' ∧ s.tk = Nat.lor tk t' ∧ s.ld = ld ++ l' := by
  unfold addR at h
  split at h
  · rename_i a b c d e
    cases h
    exact ⟨c, d, e, rfl, rfl, rfl, rfl⟩
  · cases h
theorem lor_bit {a b k : Nat} : (Nat.lor a b).testBit k = (a.testBit k || b.testBit k) := Nat.testBit_or a b k
theorem branchR_some {call : CallF} {ops : Array Oper} {base : Nat} {tm : Tr Value} {H : Heap} {next : List (Nat × Nat) → Nat → Tr Value → Heap → Option XSt} {x : Row} {s : XSt} (h : branchR P call ops base tm H next x = some s) :
    ∃ tm' H' wr' w' t', runOp P call ops base x.i x.o tm H = some (tm', H', wr') ∧ next (pairs x.i wr') x.p tm' H' = some ⟨s.tm, s.H, w', t', s.ld⟩ ∧ s.wr = pairs x.i wr' ++ w' ∧ ∀ k, t'.testBit k = true → s.tk.testBit k = true := by
  unfold branchR at h
  split at h
  · rename_i a b c hr
    obtain ⟨w', t', l', k1, k2, k3, k4⟩ := addR_some h
    exact ⟨a, b, c, w', t', hr, by rw [k1, k4]; rfl, k2, fun k hk => by rw [k3, lor_bit, hk]; simp⟩
  · cases h
/-- What lies still while a region runs: blocks no writer of which has come up. -/
def KG (ρ0 : Rn) (H0 : Heap) (W0 : World) (WR : List (Nat × Nat)) (L : Array Bool) (w : World) : Prop := ∀ b o Lo, hget H0 b = some o → isDead o = false → (∀ i, (i, b) ∈ WR → L.getD i false = false) → ρ0 b = some Lo → w.heap[Lo.x]? = W0.heap[Lo.x]?
theorem KG.up {ρ0 : Rn} {H0 : Heap} {W0 w : World} {WR : List (Nat × Nat)} {L : Array Bool} {i : Nat} (h : KG ρ0 H0 W0 WR L w) : KG ρ0 H0 W0 WR (L.setIfInBounds i true) w := fun b o Lo h1 h2 h3 h4 => h b o Lo h1 h2 (fun j hj => by
  have := h3 j hj
  cases hg : L.getD j false with
  | false => rfl
  | true => rw [getD_set_true hg] at this; cases this) h4
theorem KG.down {ρ0 : Rn} {H0 : Heap} {W0 w : World} {WR : List (Nat × Nat)} {L : Array Bool} {i : Nat} (hi : ∀ b, (i, b) ∉ WR) (h : KG ρ0 H0 W0 WR (L.setIfInBounds i true) w) : KG ρ0 H0 W0 WR L w := fun b o Lo h1 h2 h3 h4 => h b o Lo h1 h2 (fun j hj => by
  rw [getD_set_ne false (fun e => by subst e; exact hi b hj)]
  exact h3 j hj) h4
theorem Rel.kg {n0 : Nat} {ρ0 : Rn} {H0 H : Heap} {W0 W : World} {tm : Tr Value} {a : Act} {ws WR : List (Nat × Nat)} {L : Array Bool} (h : Rel P n0 ρ0 H0 W0 tm H (ws.map (·.2)) a W) (hw : ∀ q ∈ ws, q ∈ WR ∧ L.getD q.1 false = true) : KG ρ0 H0 W0 WR L W := by
  obtain ⟨ρ, -, -, h3⟩ := h
  intro b o Lo ho hd hn hL
  refine (h3.fr b o Lo ho hd (fun hb => ?_) hL).2
  obtain ⟨q, hq, rfl⟩ := List.mem_map.1 hb
  obtain ⟨k1, k2⟩ := hw q hq
  rw [hn q.1 k1] at k2
  cases k2
theorem takeV_ok {n0 : Nat} {ρ0 : Rn} {H0 H : Heap} {W0 W : World} {ops : Array Oper} {tm : Tr Value} {a : Act} {ws : List (Nat × Nat)} {o : Oper} {d : Option Tmp} {v : Value} {ob : Option Nat} (hs : takeV P ops ws H0 o tm H = some (d, v, ob)) (h00 : HR P n0 ρ0 H0 W0) (hr : Rel P n0 ρ0 H0 W0 tm H (ws.map (·.2)) a W) :
    ∃ v', d = o.dst ∧ Rel P n0 ρ0 H0 W0 (putv d v tm) H (ws.map (·.2)) (a.put o.dst v') W ∧ ∀ S' : World → Prop, (∀ b, ob = some b → ∀ w, S' w → ∃ q, hget H0 b = some q ∧ isDead q = false ∧ ∀ Lo, ρ0 b = some Lo → w.heap[Lo.x]? = W0.heap[Lo.x]?) ∨ (∀ b, ob = some b → ∀ q, hget H0 b = some q → isDead q = false → ∀ w, S' w → ∀ Lo, ρ0 b = some Lo → w.heap[Lo.x]? = W0.heap[Lo.x]?) → YieldsIf P ops S' o v' a := by
  obtain ⟨ρ, h1, h2, h3⟩ := hr
  unfold takeV at hs
  · have hw := swant_eq (ops := ops) h1 o
    split at hs
    · rename_i hf
      cases hs
      exact ⟨undef, rfl, ⟨ρ, putv_rel h1 _ (.lit rfl), by rw [put_defers]; exact h2, h3⟩, fun S' _ => .inr ⟨by rw [← hw, hf], rfl⟩⟩
    · rename_i hf
      split at hs
      · rename_i u hst
        cases hs
        obtain ⟨v', k1, k2⟩ := sstill_ok hst h1
        exact ⟨v', rfl, ⟨ρ, putv_rel h1 _ k2, by rw [put_defers]; exact h2, h3⟩, fun S' _ => .inl ⟨by rw [← hw, hf], fun w _ => k1 w⟩⟩
      · split at hs
        · rename_i t x hop
          split at hs
          · rename_i b k hx hv
            split at hs
            · rename_i ob hob hnb
              split at hs
              · rename_i u hd hl
                cases hs
                have hvr := sev_rel h1 hx
                rw [hv] at hvr
                obtain ⟨v', L, k1, k2, k3⟩ := sload_at hl hvr h3.hr
                have hnw' : b ∉ ws.map (·.2) := wsHas_no hnb
                obtain ⟨L0, m1, -⟩ := h00.obj b ob hob
                have e0 := h3.ext _ _ m1
                rw [k1] at e0
                cases e0
                have hW := (h3.fr b ob L hob hd hnw' m1).2
                refine ⟨v', rfl, ⟨ρ, putv_rel h1 _ k2, by rw [put_defers]; exact h2, h3⟩, fun S' hS => .inl ⟨by rw [← hw, hf], fun w hw2 => ?_⟩⟩
                have hk : w.heap[L.x]? = W0.heap[L.x]? := by
                  rcases hS with hS | hS
                  · obtain ⟨q, -, -, hq⟩ := hS b rfl w hw2
                    exact hq L m1
                  · exact hS b rfl ob hob hd w hw2 L m1
                have := k3 w (hk.trans hW.symm)
                simp [execOp, hop, this]
              · cases hs
            · cases hs
          · cases hs
        · cases hs
theorem findT_mem {ops : Array Oper} {T : List Row} {m : Nat} {ws : List (Nat × Nat)} {H0 H : Heap} {tm : Tr Value} {t : Took} : ∀ {l : List Row}, findT P ops T m ws H0 tm H l = some t → ∃ a o ob, ⟨t.i, t.p, a, o⟩ ∈ l ∧ takeV P ops ws H0 o tm H = some (t.d, t.v, ob) ∧ freeM ops m t.i o = true ∧ ∀ b, ob = some b → (dmask T t.p, b) ∈ t.ld ∧ Nat.beq (Nat.land m (dmask T t.p)) 0 = true
  | [], h => by simp [findT] at h
  | ⟨i, q, a, o⟩ :: r, h => by
    have rest : findT P ops T m ws H0 tm H r = some t → ∃ a2 o2 ob, ⟨t.i, t.p, a2, o2⟩ ∈ ⟨i, q, a, o⟩ :: r ∧ takeV P ops ws H0 o2 tm H = some (t.d, t.v, ob) ∧ freeM ops m t.i o2 = true ∧ ∀ b, ob = some b → (dmask T t.p, b) ∈ t.ld ∧ Nat.beq (Nat.land m (dmask T t.p)) 0 = true := fun h => by
      obtain ⟨a2, o2, ob, h1, h2⟩ := findT_mem h
      exact ⟨a2, o2, ob, by simp [h1], h2⟩
    simp only [findT] at h
    split at h
    · rename_i d2 v2 ht
      split at h
      · rename_i hf
        cases h
        exact ⟨a, o, none, by simp, ht, hf, fun b hb => by cases hb⟩
      · exact rest h
    · rename_i d2 v2 b2 ht
      split at h
      · rename_i hf hd
        cases h
        exact ⟨a, o, some b2, by simp, ht, hf, fun b hb => by cases hb; exact ⟨by simp, hd⟩⟩
      · exact rest h
    · exact rest h
theorem sameR_eq {r s : XSt} (h : sameR r s = true) : s.tm = r.tm ∧ s.H = r.H := by
  unfold sameR at h
  simp only [Bool.and_eq_true] at h
  exact ⟨(teq_eq (fun x y => veq_eq 9 x y) h.1).symm, (heq_eq h.2).symm⟩
/-- What s tells holds of r too. -/
def XSt.In (r s : XSt) : Prop := r.tm = s.tm ∧ r.H = s.H ∧ (∀ q ∈ r.wr, q ∈ s.wr) ∧ (∀ k, r.tk.testBit k = true → s.tk.testBit k = true) ∧ ∀ q ∈ r.ld, q ∈ s.ld
theorem XSt.In.trans {r s t : XSt} (h : r.In s) (k : s.In t) : r.In t := ⟨h.1.trans k.1, h.2.1.trans k.2.1, fun q hq => k.2.2.1 q (h.2.2.1 q hq), fun j hj => k.2.2.2.1 j (h.2.2.2.1 j hj), fun q hq => k.2.2.2.2 q (h.2.2.2.2 q hq)⟩
theorem XSt.In.refl (r : XSt) : r.In r := ⟨rfl, rfl, fun _ h => h, fun _ h => h, fun _ h => h⟩
theorem joinR_some {f : Row → Option XSt} : ∀ {ys : List Row} {r s : XSt}, joinR f ys r = some s → r.In s ∧ ∀ y ∈ ys, ∃ u, f y = some u ∧ u.In s
  | [], r, s, h => by
    simp only [joinR, Option.some.injEq] at h
    subst h
    exact ⟨.refl _, fun y hy => by simp at hy⟩
  | y :: ys, r, s, h => by
    simp only [joinR] at h
    split at h
    · rename_i u hu
      split at h
      · rename_i hs
        obtain ⟨a1, a2⟩ := joinR_some h
        obtain ⟨e1, e2⟩ := sameR_eq hs
        have b1 : r.In ⟨r.tm, r.H, u.wr ++ r.wr, Nat.lor u.tk r.tk, u.ld ++ r.ld⟩ := ⟨rfl, rfl, fun q hq => List.mem_append_right _ hq, fun k hk => by rw [lor_bit, hk, Bool.or_true], fun q hq => List.mem_append_right _ hq⟩
        have b2 : u.In ⟨r.tm, r.H, u.wr ++ r.wr, Nat.lor u.tk r.tk, u.ld ++ r.ld⟩ := ⟨e1, e2, fun q hq => List.mem_append_left _ hq, fun k hk => by rw [lor_bit, hk, Bool.true_or], fun q hq => List.mem_append_left _ hq⟩
        refine ⟨b1.trans a1, fun z hz => ?_⟩
        rcases List.mem_cons.1 hz with rfl | hz
        · exact ⟨u, hu, b2.trans a1⟩
        · exact a2 z hz
      · cases h
    · cases h
theorem explore_ok (hN : namesOk P = true) {n0 : Nat} {call : CallF} (hc : CallOk P n0 call) {ops : Array Oper} (hns : Region.noSelect ops = true) {base : Nat} {ρ0 : Rn} {H0 : Heap} {W0 : World} (h00 : HR P n0 ρ0 H0 W0) (h0 : n0 ≤ W0.heap.size) {F : XSt} {Q : Exit → Act → World → Prop} (hp : ∀ c a w, ¬ Q (.panic c) a w)
    (ht : ∀ q ∈ F.wr, F.tk.testBit q.1 = false) (hl : ∀ d b, (d, b) ∈ F.ld → ∀ i, (i, b) ∈ F.wr → d.testBit i = true)
    (hQ : ∀ a' W', Rel P n0 ρ0 H0 W0 F.tm F.H (F.wr.map (·.2)) a' W' → Q .normal a' W') : ∀ (n : Nat) {m : Nat} {ws : List (Nat × Nat)} {L : Array Bool} {tm : Tr Value} {H : Heap} {s : XSt} {a : Act} {W : World}, explore P call ops (rows ops.toList 0) base H0 n m ws tm H = some s → s.In F → Msk m L ops.size → (∀ q ∈ ws, q ∈ F.wr ∧ L.getD q.1 false = true) → Rel P n0 ρ0 H0 W0 tm H (ws.map (·.2)) a W →
      Goes P ops Q (KG ρ0 H0 W0 F.wr) n L a W := by
  intro n
  have fine : ∀ {m : Nat} {x : Row}, x ∈ rdy m (rows ops.toList 0) → ops[x.i]? = some x.o ∧ x.p = Nat.pow 2 x.i ∧ x.i < ops.size := fun {m x} hx => by
    obtain ⟨h1, h2, -⟩ := rows_fine (ops := ops) (i := 0) (by simp) x (rdy_sub hx)
    exact ⟨h1, h2, (Array.getElem?_eq_some_iff.1 h1).1⟩
  have fin : ∀ {ws : List (Nat × Nat)} {L : Array Bool} {tm : Tr Value} {H : Heap} {a : Act} {W : World}, (XSt.mk tm H [] 0 []).In F → (∀ q ∈ ws, q ∈ F.wr ∧ L.getD q.1 false = true) → Rel P n0 ρ0 H0 W0 tm H (ws.map (·.2)) a W → Q .normal a W := fun {ws L tm H a W} hin hw hr => by
    obtain ⟨e1, e2, -⟩ := hin
    simp only at e1 e2
    rw [e1, e2] at hr
    refine hQ a W (hr.wr_dom fun b hb => .inl ?_)
    obtain ⟨q, hq, rfl⟩ := List.mem_map.1 hb
    exact List.mem_map.2 ⟨q, (hw q hq).1, rfl⟩
  induction n with
  | zero =>
    intro m ws L tm H s a W hs hin hm hw hr
    simp only [explore] at hs
    split at hs
    · rename_i hrd
      cases hs
      exact ⟨by rw [rdy_all hm, hrd]; rfl, fin hin hw hr⟩
    · cases hs
  | succ n ih =>
    intro m ws L tm H s a W hs hin hm hw hr
    have hrdy := rdy_all hm
    have branch : ∀ {x : Row} {u : XSt}, x ∈ rdy m (rows ops.toList 0) → branchR P call ops base tm H (fun w p tm' H' => explore P call ops (rows ops.toList 0) base H0 n (Nat.lor m p) (w ++ ws) tm' H') x = some u → u.In F →
        wpOp P ops Q x.i (fun a' w' => KG ρ0 H0 W0 F.wr (L.setIfInBounds x.i true) w' ∧ Goes P ops Q (KG ρ0 H0 W0 F.wr) n (L.setIfInBounds x.i true) a' w') a W := fun {x u} hx hb hu => by
      obtain ⟨f1, f2, f3⟩ := fine hx
      obtain ⟨tm2, H2, wr2, w2, t2, k1, k2, k3, k4⟩ := branchR_some hb
      refine runOp_ok hN hc f1 k1 h0 hr fun a' W' hr' => ?_
      have hset : (L.setIfInBounds x.i true).getD x.i false = true := by
        have h1 := hm.1
        rw [Array.getD_eq_getD_getElem?, Array.getElem?_setIfInBounds]
        simp [h1, f3]
      have hw2 : ∀ q ∈ pairs x.i wr2 ++ ws, q ∈ F.wr ∧ (L.setIfInBounds x.i true).getD q.1 false = true := fun q hq => by
        rcases List.mem_append.1 hq with hq | hq
        · refine ⟨hu.2.2.1 q (by rw [k3]; exact List.mem_append_left _ hq), ?_⟩
          rw [pairs_fst hq]
          exact hset
        · exact ⟨(hw q hq).1, getD_set_true (hw q hq).2⟩
      have hr2 : Rel P n0 ρ0 H0 W0 tm2 H2 ((pairs x.i wr2 ++ ws).map (·.2)) a' W' := hr'.wr_dom fun b hb => .inl (by
        rw [List.map_append, pairs_snd]
        rcases List.mem_append.1 hb with hb | hb
        · exact List.mem_append_right _ hb
        · exact List.mem_append_left _ hb)
      refine ⟨hr2.kg hw2, ih k2 ⟨hu.1, hu.2.1, fun q hq => hu.2.2.1 q (by rw [k3]; exact List.mem_append_right _ hq), fun k hk => hu.2.2.2.1 k (k4 k hk), hu.2.2.2.2⟩ (by rw [f2]; exact hm.set f3) hw2 hr2⟩
    simp only [explore] at hs
    split at hs
    · rename_i hrd
      cases hs
      exact Goes.done (by rw [hrdy, hrd]; rfl) (fin hin hw hr) _
    · rename_i x hrd
      refine Goes.all (hrdy.trans (by rw [hrd])) (by simp) fun j hj => ?_
      simp at hj
      subst hj
      exact branch (by rw [hrd]; simp) hs hin
    · rename_i x xs _ hrd
      split at hs
      · rename_i j p d v ld2 hf
        obtain ⟨aa, o, ob, m1, m2, m3, m4⟩ := findT_mem hf
        simp only at m1 m2 m3 m4
        rw [← hrd] at m1
        obtain ⟨f1, f2, f3⟩ := fine m1
        simp only at f1 f2 f3
        obtain ⟨w', t', l', e1, e2, e3, e4⟩ := addR_some hs
        obtain ⟨v', rfl, k3, k2⟩ := takeV_ok m2 h00 hr
        have hjt : F.tk.testBit j = true := hin.2.2.2.1 j (by rw [e3, lor_bit, f2, show (Nat.pow 2 j).testBit j = true by show (2 ^ j).testBit j = true; rw [Nat.testBit_two_pow]; simp]; rfl)
        have hjw : ∀ b, (j, b) ∉ F.wr := fun b hb => by
          have := ht _ hb
          rw [hjt] at this
          cases this
        have hrest := ih e1 ⟨hin.1, hin.2.1, fun q hq => hin.2.2.1 q (by rw [e2]; simp [hq]), fun k hk => hin.2.2.2.1 k (by rw [e3, lor_bit, hk]; simp), fun q hq => hin.2.2.2.2 q (by rw [e4]; simp [hq])⟩ (by rw [f2]; exact hm.set f3) (fun q hq => ⟨(hw q hq).1, getD_set_true (hw q hq).2⟩) k3
        have hready : j ∈ Region.ready .any ops L := by rw [hrdy]; exact List.mem_map.2 ⟨_, m1, rfl⟩
        have hfree := Region.free_spec f1 (freeM_eq hm f1 m3)
        cases ob with
        | none =>
          exact Goes.take (D := fun _ => false) f1 hns (fun c a w hq => (hp c _ w hq).elim) (fun _ _ h => h.up) (fun _ _ h => h.down hjw) n L a W hfree hready (fun k hk => by cases hk) (k2 _ (.inr fun b hb => by cases hb)) (hr.kg hw) hrest
        | some b =>
          obtain ⟨q1, q2⟩ := m4 b rfl
          rw [f2] at q1 q2
          refine Goes.take (D := fun k => (dmask (rows ops.toList 0) (Nat.pow 2 j)).testBit k) f1 hns (fun c a w hq => (hp c _ w hq).elim) (fun _ _ h => h.up) (fun _ _ h => h.down hjw) n L a W hfree hready (dmask_waits (rows_fine (i := 0) (by simp)) hm q2) (k2 _ (.inr fun b2 hb2 q hq hdd w hS Lo hLo => ?_)) (hr.kg hw) hrest
          cases hb2
          obtain ⟨L2, g1, g2⟩ := hS
          refine g2 b q Lo hq hdd (fun i hi => g1 i ?_) hLo
          exact hl _ b (hin.2.2.2.2 _ (by rw [e4]; exact List.mem_append_left _ q1)) i hi
      · split at hs
        · rename_i r hbr
          obtain ⟨e1, e2⟩ := joinR_some hs
          refine Goes.all (hrdy.trans (by rw [hrd])) (by simp) fun j hj => ?_
          obtain ⟨y, hy, rfl⟩ := List.mem_map.1 hj
          rcases List.mem_cons.1 hy with rfl | hy
          · exact branch (by rw [hrd]; simp) hbr (e1.trans hin)
          · obtain ⟨u, g1, g2⟩ := e2 y hy
            exact branch (by rw [hrd]; simp [hy]) g1 (g2.trans hin)
        · cases hs
def okT (tk : Nat) : List (Nat × Nat) → Bool
  | [] => true
  | (i, _) :: r => match Nat.beq (Nat.land tk (Nat.pow 2 i)) 0 with
    | true => okT tk r
    | false => false
theorem okT_ok {tk : Nat} : ∀ {l : List (Nat × Nat)}, okT tk l = true → ∀ q ∈ l, tk.testBit q.1 = false
  | [], _, q, hq => by simp at hq
  | (i, b) :: r, h, q, hq => by
    simp only [okT] at h
    split at h
    · rename_i hb
      rcases List.mem_cons.1 hq with rfl | hq
      · rw [land_pow] at hb
        simpa using hb
      · exact okT_ok h q hq
    · cases h
def okD (d b : Nat) : List (Nat × Nat) → Bool
  | [] => true
  | (i, c) :: r => match Nat.beq b c, Nat.beq (Nat.land d (Nat.pow 2 i)) 0 with
    | true, true => false
    | _, _ => okD d b r
theorem okD_ok {d b : Nat} : ∀ {l : List (Nat × Nat)}, okD d b l = true → ∀ i, (i, b) ∈ l → d.testBit i = true
  | [], _, i, hi => by simp at hi
  | (j, c) :: r, h, i, hi => by
    simp only [okD] at h
    split at h
    · cases h
    · rename_i hne
      rcases List.mem_cons.1 hi with e | hi
      · cases e
        cases hb : d.testBit j with
        | true => rfl
        | false =>
          exact absurd (by rw [land_pow, hb]; rfl) (hne (by simp [Nat.beq_refl]))
      · exact okD_ok h i hi
def okL (wr : List (Nat × Nat)) : List (Nat × Nat) → Bool
  | [] => true
  | (d, b) :: r => match okD d b wr with
    | true => okL wr r
    | false => false
theorem okL_ok {wr : List (Nat × Nat)} : ∀ {l : List (Nat × Nat)}, okL wr l = true → ∀ d b, (d, b) ∈ l → ∀ i, (i, b) ∈ wr → d.testBit i = true
  | [], _, d, b, h => by simp at h
  | (d2, b2) :: r, h, d, b, hm => by
    simp only [okL] at h
    split at h
    · rename_i hd
      rcases List.mem_cons.1 hm with e | hm
      · cases e
        exact okD_ok hd
      · exact okL_ok h d b hm
    · cases h
def drawR (P : Program) (call : CallF) (ops : Array Oper) (base : Nat) (tm : Tr Value) (H : Heap) : Option (Tr Value × Heap × List Nat) :=
  match Region.noSelect ops, explore P call ops (rows ops.toList 0) base H ops.size 0 [] tm H with
  | true, some F => match okT F.tk F.wr, okL F.wr F.ld with
    | true, true => some (F.tm, F.H, F.wr.map (·.2))
    | _, _ => none
  | _, _ => none
theorem drawR_ok (hN : namesOk P = true) {n0 : Nat} {call : CallF} (hc : CallOk P n0 call) (hm : P.follows .mixedOrders = true) {ops : Array Oper} {base id : Nat} {tm tm' : Tr Value} {H H' : Heap} {wr' : List Nat} (hs : drawR P call ops base tm H = some (tm', H', wr'))
    {ρ : Rn} {a : Act} {W : World} (h1 : FR ρ tm a.tmps.toList) (h2 : a.defers = []) (h3 : HR P n0 ρ H W) (h0 : n0 ≤ W.heap.size) {Q : Exit → Act → World → Prop} (hp : ∀ c a w, ¬ Q (.panic c) a w)
    (hQ : ∀ a' W', Rel P n0 ρ H W tm' H' wr' a' W' → Q .normal a' W') : (Code.region id ops true).wp P Q a W := by
  unfold drawR at hs
  split at hs
  · rename_i F hns hex
    split at hs
    · rename_i ht hl
      cases hs
      refine wp_region_any hm (Goes.any (S := KG ρ H W.drew F.wr) ops.size _ a W.drew ?_)
      refine explore_ok hN hc hns h3.drew h0 hp (okT_ok ht) (okL_ok hl) (fun a' W' hr => hQ a' W' ?_) ops.size hex (.refl F) (Msk.zero _) (fun q hq => by simp at hq) ⟨ρ, h1, h2, Okay.refl h3.drew⟩
      obtain ⟨ρ', k1, k2, k3⟩ := hr
      exact ⟨ρ', k1, k2, k3.of_drew⟩
    · cases hs
  · cases hs

end
end Go.Proofs.YtfnphhmcbdoojaaGreatDoor.Sim
