/- A row that the call owns, with an offset: what is left of it by s[1:]. No program is named here. -/
import Derived.Test.YtgjjjnofdjhikaaRows9
import Derived.ArgAppend
namespace Go.Proofs.Ytgjjjnofdjhikaa
open Go.Joins Go.ChangeShapes Go.WideShapes Go.RowKit Go.Deep

def ownsOff (w : World) (base : Nat) (e : TypeId) (size : Nat) (v : Value) (n : Nat) (xs : List Value) : Prop :=
  xs.length = n * size ∧ ((v = .slice none 0 0 ∧ n = 0) ∨
    ∃ g o cap cur, v = .slice (some ⟨g, o, none⟩) n cap ∧ base ≤ g ∧ Bk w g e cur ∧ n ≤ cap ∧ cap ≤ maxLen ∧ o + cap * size ≤ cur.size ∧ (cur.toList.drop o).take (n * size) = xs)
section
variable {w : World} {base : Nat} {e : TypeId} {size : Nat} {v : Value} {n : Nat} {xs : List Value}
theorem ownsOff_of (h : w.ownsRow base e size v n xs) {base' : Nat} (hb : base' ≤ base) : ownsOff w base' e size v n xs := by
  refine ⟨h.1, ?_⟩
  rcases h.2 with h | ⟨g, cap, cur, rfl, hbg, hh, hnc, hm, hs, hx⟩
  · exact .inl h
  · exact .inr ⟨g, 0, cap, cur, rfl, by omega, hh, hnc, hm, by omega, by simpa using hx⟩
theorem ownsOff_lt (h : ownsOff w base e size v n xs) : ∀ k, v.ownBlock = some k → base ≤ k ∧ k < w.heap.size := by
  intro k hk
  rcases h.2 with ⟨rfl, _⟩ | ⟨g, o, cap, cur, rfl, hb, hg, _⟩
  · simp [Value.ownBlock] at hk
  · simp [Value.ownBlock] at hk
    subst hk
    exact ⟨hb, hg.lt⟩
theorem ownsOff_kept {w' : World} {row : Option Nat} (h : ownsOff w base e size v n xs) (hg : w.grownBy w' row) (hne : v.ownBlock = none ∨ v.ownBlock ≠ row) : ownsOff w' base e size v n xs := by
  refine ⟨h.1, ?_⟩
  rcases h.2 with hn | ⟨g, o, cap, cur, rfl, hb, hgg, rest⟩
  · exact .inl hn
  · refine .inr ⟨g, o, cap, cur, rfl, hb, ?_, rest⟩
    unfold Bk
    rw [hg.block g hgg.lt (by simpa [Value.ownBlock] using hne)]
    exact hgg
theorem ownsOff_step {w2 : World} (h : ownsOff w base e size v n xs) (hb : Below w.heap.size w w2) : ownsOff w2 base e size v n xs :=
  ownsOff_kept h (row := none) ⟨hb.os, hb.tape, hb.output, hb.size, fun i hi _ => hb.block i hi⟩ (by
    rcases h.2 with ⟨rfl, -⟩ | ⟨g, o, cap, cur, rfl, -⟩
    · exact .inl rfl
    · exact .inr (by simp [Value.ownBlock]))
theorem ownsOff_cells {g o cap : Nat} (h : ownsOff w base e size (.slice (some ⟨g, o, none⟩) n cap) n xs) : ∀ j u, xs[j]? = some u → w.cell? ⟨g, o + j, none⟩ = some u := by
  intro j u hu
  rcases h.2 with ⟨e1, _⟩ | ⟨g', o', cap', cur, e1, _, hb, hnc, _, hs, hx⟩
  · cases e1
  · injection e1 with e1 e2 e3
    injection e1 with e1
    injection e1 with e1 e4
    subst e1; subst e4; subst e3
    rw [hb.cell]
    rw [← hx, List.getElem?_take] at hu
    split at hu
    · simpa using hu
    · cases hu
/-- Its form, where there is an element. -/
theorem ownsOff_form (h : ownsOff w base e size v n xs) (hn : 0 < n) : ∃ g o cap cur, v = .slice (some ⟨g, o, none⟩) n cap ∧ base ≤ g ∧ Bk w g e cur ∧ n ≤ cap ∧ cap ≤ maxLen ∧ o + cap * size ≤ cur.size ∧ (cur.toList.drop o).take (n * size) = xs := by
  rcases h.2 with ⟨_, e0⟩ | hh
  · omega
  · exact hh
/-- Without the first one. -/
theorem ownsOff_tail {g o cap : Nat} (h : ownsOff w base e size (.slice (some ⟨g, o, none⟩) (n + 1) cap) (n + 1) xs) : ownsOff w base e size (.slice (some ⟨g, o + size, none⟩) n (cap - 1)) n (xs.drop size) := by
  obtain ⟨g', o', cap', cur, e1, hb, hg, hnc, hm, hs, hx⟩ := ownsOff_form h (by omega)
  injection e1 with e1 e2 e3
  injection e1 with e1
  injection e1 with e1 e4
  subst e1; subst e4; subst e3
  have hc : cap * size = (cap - 1) * size + size := by
    obtain ⟨c, rfl⟩ : ∃ c, cap = c + 1 := ⟨cap - 1, by omega⟩
    rw [Nat.add_mul]; simp
  refine ⟨?_, .inr ⟨g, o + size, cap - 1, cur, rfl, hb, hg, by omega, by omega, by omega, ?_⟩⟩
  · rw [List.length_drop, h.1, Nat.add_mul]; omega
  · rw [← hx, List.drop_take, List.drop_drop, Nat.add_mul]
    congr 1
    omega
/-- A cell of it, anew. -/
theorem ownsOff_set {g o cap : Nat} (h : ownsOff w base e size (.slice (some ⟨g, o, none⟩) n cap) n xs) {j : Nat} (hj : j < n * size) (u : Value) : ownsOff (w.setCell ⟨g, o + j, none⟩ u) base e size (.slice (some ⟨g, o, none⟩) n cap) n (xs.set j u) := by
  refine ⟨by rw [List.length_set]; exact h.1, ?_⟩
  rcases h.2 with ⟨e1, _⟩ | ⟨g', o', cap', cur, e1, hb, hg, hnc, hm, hs, hx⟩
  · cases e1
  · have e0 := e1
    injection e1 with e1 e2 e3
    injection e1 with e1
    injection e1 with e1 e4
    subst e1; subst e4; subst e3
    refine .inr ⟨g, o, cap, _, rfl, hb, hg.set_ (o + j) u, hnc, hm, by simpa using hs, ?_⟩
    rw [← hx, Array.toList_setIfInBounds]
    refine List.ext_getElem? fun q => ?_
    simp only [List.getElem?_take, List.getElem?_drop, List.getElem?_set, List.length_take, List.length_drop, Array.length_toList]
    have hle : n * size ≤ cap * size := Nat.mul_le_mul_right _ hnc
    by_cases hq : q < n * size
    · by_cases hqj : j = q
      · subst hqj
        have : o + j < cur.size := by omega
        simp [hq, this]
        omega
      · have : ¬ o + j = o + q := by omega
        simp [hq, hqj]
    · by_cases hqj : j = q
      · omega
      · simp [hq, hqj]
end
section
variable {P : Program} (w : World)
/-- append onto it. -/
theorem run_append_off (base : Nat) (t ty e : TypeId) (i : TypeInfo) (z : Value) (size bytes : Nat) (ht : P.underlying t = some (.slice e)) (hi : P.info? e = some i) (hz : i.zero = some z)
    (hsize : i.size = size) (hby : i.bytes = bytes) (hzs : z.cells.size = size) (hsz : 0 < size)
    (v : Value) (n : Nat) (xs : List Value) (hown : ownsOff w base e size v n xs)
    (a : Addr) (m c : Nat) (news : List Value) (hl : news.length = m * size) (hnews : ∀ j u, news[j]? = some u → w.cell? (a.add j) = some u) (h1 : ∀ u ∈ news, u.oneCell' = true)
    (h63 : n + m ≤ maxLen) (hbytes : (n + m) * bytes ≤ 140737488355328) (hbase : base ≤ w.heap.size) :
    ∃ v' w', (Builtin.append_ #[t, t] ty #[v, .slice (some a) m c]).run P w = .ok v' w' ∧ ownsOff w' base e size v' (n + m) (xs ++ news) ∧ w.grownBy w' v.ownBlock ∧ (v'.ownBlock = v.ownBlock ∨ ∀ k, v'.ownBlock = some k → w.heap.size ≤ k) := by
  rcases hown.2 with ⟨rfl, rfl⟩ | ⟨g, o, cap, cur, rfl, hbg, hg, hnc, hcm, hcs, hx⟩
  · have hxs : xs = [] := List.eq_nil_of_length_eq_zero (by simpa using hown.1)
    subst hxs
    obtain ⟨v', w', hr, ho, hgr, -⟩ := run_append_own (P := P) w w.heap.size t ty e i z size bytes ht hi hz hsize hby hzs hsz _ 0 [] (World.ownsRow_nil w _ e size) a m c news hl hnews h1 h63 hbytes (Nat.le_refl _)
    exact ⟨v', w', hr, ownsOff_of ho hbase, hgr, .inr fun k hk => (ho.lt k hk).1⟩
  · by_cases hroom : n + m ≤ cap
    · subst hsize
      have hfit : o + n * i.size + news.length ≤ cur.size := by
        rw [hl]
        have h2 := Nat.mul_le_mul_right i.size hroom
        rw [Nat.add_mul] at h2
        omega
      have hf := run_firstCells_some (P := P) w i.size m a m c news hl hnews
      have hst := run_storeCells_at P g (o + n * i.size) e news 0 cur w hg (by simpa using hfit) h1
      simp only [Nat.add_zero] at hst
      refine ⟨.slice (some ⟨g, o, none⟩) (n + m) cap, w.setRow g (cur.toList.take (o + n * i.size) ++ news ++ cur.toList.drop (o + n * i.size + news.length)).toArray, ?_, ⟨?_, .inr ⟨g, o, cap, _, rfl, hbg, setRow_heap w g cur _ e _ hg, hroom, hcm, ?_, ?_⟩⟩, ⟨rfl, rfl, rfl, by simp, fun k _ hk => setRow_other w g k _ (fun e => hk (by simp [Value.ownBlock, e]))⟩, .inl rfl⟩
      · simp [Builtin.append_, run_underlying ht, sizeOf, typeInfo, hi, Builtin.lenOf, hroom, hf, Addr.add_lit, hst]
      · rw [List.length_append, hown.1, hl, Nat.add_mul]
      · simp only [List.size_toArray, List.length_append, List.length_take, List.length_drop, Array.length_toList]
        omega
      · have hle : o ≤ (cur.toList.take (o + n * i.size)).length := by
          simp only [List.length_take, Array.length_toList]
          omega
        rw [List.append_assoc, List.drop_append_of_le_length hle, List.drop_take, show o + n * i.size - o = n * i.size by omega, hx, ← List.append_assoc]
        rw [show (n + m) * i.size = (xs ++ news).length by rw [List.length_append, hown.1, hl, Nat.add_mul]]
        exact List.take_left
    · obtain ⟨v', w', hr, ho, hgr⟩ := run_append_arg_grows (P := P) w t ty e i z size bytes ht hi hz hsize hby hzs hsz ⟨g, o, none⟩ n cap xs hown.1 (fun j u hu => by rw [add_at]; exact ownsOff_cells hown j u hu) a m c news hl hnews (by omega) h63 hbytes
      exact ⟨v', w', hr, ownsOff_of ho hbase, ⟨hgr.os, hgr.tape, hgr.output, hgr.size, fun k hk _ => hgr.block k hk (by simp)⟩, .inr fun k hk => (ho.lt k hk).1⟩
/-- At the operation, for the walk. -/
theorem wpList_append_off {ops : Array Oper} {rest : List Oper} {o : Oper} {a : Act} {Q : Exit → Act → World → Prop} (hgd : o.guard = none) (s x : Operand) (t : TypeId)
    (ho : o.op = .call { callee := .builtin .append, args := #[s, x], argTypes := #[t, t] })
    (base : Nat) (e : TypeId) (i : TypeInfo) (z : Value) (size bytes : Nat) (ht : P.underlying t = some (.slice e)) (hi : P.info? e = some i) (hz : i.zero = some z)
    (hsize : i.size = size) (hby : i.bytes = bytes) (hzs : z.cells.size = size) (hsz : 0 < size)
    (v : Value) (n : Nat) (xs : List Value) (hs : a.eval s = v) (hown : ownsOff w base e size v n xs)
    (ad : Addr) (m c : Nat) (news : List Value) (hx : a.eval x = .slice (some ad) m c) (hl : news.length = m * size) (hnews : ∀ j u, news[j]? = some u → w.cell? (ad.add j) = some u) (h1 : ∀ u ∈ news, u.oneCell' = true)
    (h63 : n + m ≤ maxLen) (hbytes : (n + m) * bytes ≤ 140737488355328) (hbase : base ≤ w.heap.size)
    (h : ∀ v' w', ownsOff w' base e size v' (n + m) (xs ++ news) → w.grownBy w' v.ownBlock → (v'.ownBlock = v.ownBlock ∨ ∀ k, v'.ownBlock = some k → w.heap.size ≤ k) → wpList P ops Q rest (a.put o.dst v') w') :
    wpList P ops Q (o :: rest) a w := by
  refine wpList_plain hgd fun K hK => ?_
  obtain ⟨v', w', hr, h2, h3, h4⟩ := run_append_off (P := P) w base t o.type e i z size bytes ht hi hz hsize hby hzs hsz v n xs hown ad m c news hl hnews h1 h63 hbytes hbase
  unfold Oper.wp execOp
  simp only [ho, resolve, invoke, builtin, Sem.run_bind, Sem.run_pure, Result.andThen_ok, List.map_toArray, List.map_cons, List.map_nil, hs, hx, hr]
  exact hK _ _ (h v' w' h2 h3 h4)
end

end Go.Proofs.Ytgjjjnofdjhikaa
