/- A slice of limbs that the call owns: nil, or the head of a block that is known whole; append onto it. No program is named here. -/
import Derived.Test.YtfnibkodccfocaaGreatMem
import Derived.Laws.AppendOwn
import Derived.OwnWalk
namespace Go.Proofs.YtfnibkodccfocaaGreat
open Go.RowKit

/-- The slice value v owns its block, from base on, and holds the limbs l. -/
def OwnL (w : World) (base : Nat) (t : TypeId) (v : Value) (l : List Nat) : Prop :=
  (v = .slice none 0 0 ∧ l = []) ∨ ∃ g n c O, v = .slice (some ⟨g, 0, none⟩) n c ∧ base ≤ g ∧ Buf w g t O ∧ O.length = c ∧ n ≤ c ∧ c ≤ 9223372036854775807 ∧ l = O.take n

section
variable {w w' : World} {base base' : Nat} {t : TypeId} {v : Value} {l : List Nat}
theorem OwnL.nil_ (w : World) (base : Nat) (t : TypeId) : OwnL w base t (.slice none 0 0) [] := .inl ⟨rfl, rfl⟩
theorem OwnL.form (h : OwnL w base t v l) : ∃ A c, v = .slice A l.length c := by
  rcases h with ⟨rfl, rfl⟩ | ⟨g, n, c, O, rfl, _, _, hO, hn, _, rfl⟩
  · exact ⟨_, _, rfl⟩
  · exact ⟨_, c, by rw [List.length_take, hO, Nat.min_eq_left hn]⟩
theorem OwnL.lim (h : OwnL w base t v l) {B : Nat} (hB : w.heap.size ≤ B) : ∃ A c, v = .slice A l.length c ∧ Lim w B A l.length c l := by
  rcases h with ⟨rfl, rfl⟩ | ⟨g, n, c, O, rfl, _, hb, hO, hn, hc, rfl⟩
  · exact ⟨_, _, rfl, Lim.nil_ _ _⟩
  · have e : (O.take n).length = n := by rw [List.length_take, hO, Nat.min_eq_left hn]
    refine ⟨_, c, by rw [e], ?_⟩
    rw [e]
    exact hb.lim (Nat.lt_of_lt_of_le hb.lt hB) hn hc (by omega)
theorem OwnL.bd (h : OwnL w base t v l) : Bd l := by
  rcases h with ⟨rfl, rfl⟩ | ⟨g, n, c, O, rfl, _, hb, hO, hn, hc, rfl⟩
  · exact Bd.nil
  · exact hb.bd.take n
theorem OwnL.block (h : OwnL w base t v l) : ∀ k, v.ownBlock = some k → base ≤ k ∧ k < w.heap.size := by
  intro k hk
  rcases h with ⟨rfl, rfl⟩ | ⟨g, n, c, O, rfl, hbg, hb, hO, hn, hc, rfl⟩
  · simp [Value.ownBlock] at hk
  · simp [Value.ownBlock] at hk
    subst hk
    exact ⟨hbg, hb.lt⟩
theorem OwnL.keep (h : OwnL w base t v l) (hk : ∀ k, v.ownBlock = some k → w'.heap[k]? = w.heap[k]?) : OwnL w' base t v l := by
  rcases h with ⟨rfl, rfl⟩ | ⟨g, n, c, O, rfl, hbg, hb, hO, hn, hc, rfl⟩
  · exact OwnL.nil_ _ _ _
  · exact .inr ⟨g, n, c, O, rfl, hbg, ⟨(hk g (by simp [Value.ownBlock])).trans hb.bk, hb.bd⟩, hO, hn, hc, rfl⟩
theorem OwnL.cut {n c : Nat} {A : Option Addr} (h : OwnL w base t (.slice A n c) l) {m : Nat} (hm : m ≤ n) : OwnL w base t (.slice A m c) (l.take m) := by
  rcases h with ⟨h, rfl⟩ | ⟨g, n', c', O, h, hbg, hb, hO, hn, hc, rfl⟩
  · injection h with h1 h2 h3
    subst h1; subst h2; subst h3
    obtain rfl : m = 0 := by omega
    exact OwnL.nil_ _ _ _
  · injection h with h1 h2 h3
    subst h1; subst h2; subst h3
    exact .inr ⟨g, m, c, O, rfl, hbg, hb, hO, by omega, hc, by rw [List.take_take, Nat.min_eq_left hm]⟩
end

theorem zero_cells (n : Nat) : Builtin.zeroCells (Value.int IntKind.u32 0).cells n = (u32s (List.replicate n 0)).toArray := by
  apply Array.ext
  · simp [Builtin.zeroCells, u32s, Value.cells]
  · intro j h1 h2
    simp [Builtin.zeroCells, u32s, Value.cells, Nat.mod_one]

section
variable {P : Program} (w : World)
theorem run_append_u32 (base : Nat) (t ty e : TypeId) (i : TypeInfo) (ht : P.underlying t = some (.slice e)) (hi : P.info? e = some i) (hz : i.zero = some (.int .u32 0)) (hsize : i.size = 1) (hby : i.bytes = 4)
    (v : Value) (l : List Nat) (hown : OwnL w base e v l) (B : Nat) (A : Option Addr) (m c : Nat) (news : List Nat) (hs : Lim w B A m c news) (hlen : l.length + m ≤ 1099511627776) (hbase : base ≤ w.heap.size) :
    ∃ v' w', (Builtin.append_ #[t, t] ty #[v, .slice A m c]).run P w = .ok v' w' ∧ OwnL w' base e v' (l ++ news) ∧ w.grownBy w' v.ownBlock ∧ (v'.ownBlock = v.ownBlock ∨ v'.ownBlock = some w.heap.size) := by
  have hnl := hs.len
  rcases Nat.eq_zero_or_pos m with h0 | h0
  · subst h0
    have hn : news = [] := List.eq_nil_of_length_eq_zero hnl
    subst hn
    refine ⟨v, w, ?_, by simpa using hown, World.grownBy.refl w _, .inl rfl⟩
    obtain ⟨A', c', hv⟩ := hown.form
    rcases hown with ⟨rfl, rfl⟩ | ⟨g, n, cc, O, rfl, hbg, hb, hO, hn, hc, rfl⟩
    · cases A <;> simp [Builtin.append_, run_underlying ht, sizeOf, typeInfo, hi, Builtin.lenOf, Builtin.firstCells, loadCells, loadCellsFrom]
    · cases A <;> simp [Builtin.append_, run_underlying ht, sizeOf, typeInfo, hi, Builtin.lenOf, Builtin.firstCells, hn, storeCells, loadCells, loadCellsFrom]
  · obtain ⟨b, o, rfl, hb, hc⟩ := hs.addr h0
    have hcells : ∀ j u, (u32s news)[j]? = some u → w.cell? ((⟨b, o, none⟩ : Addr).add j) = some u := by
      intro j u hu
      rw [Addr.add_lit]
      rw [u32s_get?] at hu
      cases hj : news[j]? with
      | none => rw [hj] at hu; cases hu
      | some x => rw [hj] at hu; cases hu; exact hc j x hj
    have hnl2 : (u32s news).length = m * i.size := by rw [u32s_length, hnl, hsize, Nat.mul_one]
    have mk : ∀ (old : Nat), old < l.length + m → ∀ row : Option Nat,
        OwnL (w.drew.alloc (.cells ((u32s l).toArray ++ (u32s news).toArray ++ Builtin.zeroCells (Value.int IntKind.u32 0).cells (grownCap w (l.length + m) old e - (l.length + m))) e)) base e
          (.slice (some ⟨w.heap.size, 0, none⟩) (l.length + m) (grownCap w (l.length + m) old e)) (l ++ news) ∧
        w.grownBy (w.drew.alloc (.cells ((u32s l).toArray ++ (u32s news).toArray ++ Builtin.zeroCells (Value.int IntKind.u32 0).cells (grownCap w (l.length + m) old e - (l.length + m))) e)) row := by
      intro old ho row
      have hge := grownCap_ge w (l.length + m) old e
      have hcm := grownCap_le_maxLen w (l.length + m) old e (by simp only [maxLen]; omega)
      refine ⟨.inr ⟨w.heap.size, _, _, l ++ news ++ List.replicate (grownCap w (l.length + m) old e - (l.length + m)) 0, rfl, hbase, ⟨?_, ?_⟩, ?_, hge, by simp only [maxLen] at hcm; omega, ?_⟩, ⟨rfl, rfl, rfl, by simp, fun k hk _ => heap_alloc_old _ _ hk⟩⟩
      · rw [zero_cells, List.append_toArray, List.append_toArray, ← u32s_append, ← u32s_append]
        exact heap_alloc_new w.drew _
      · exact (hown.bd.append hs.bd).append (Bd.replicate _)
      · simp only [List.length_append, List.length_replicate, hnl]; omega
      · rw [List.take_left' (by rw [List.length_append, hnl])]
    rcases hown with ⟨rfl, rfl⟩ | ⟨g, n, cap, O, rfl, hbg, hbuf, hO, hnc, hcm, rfl⟩
    · have hr := run_append_nil (P := P) w t ty e i _ ht hi hz ⟨b, o, none⟩ m c (u32s news) hnl2 hcells h0 (by simp at hlen; omega) (by rw [hby]; simp at hlen; omega)
      have hgr := mk 0 (by simp; omega) (Value.ownBlock (.slice none 0 0))
      simp only [List.length_nil, Nat.zero_add, List.nil_append, u32s, List.map_nil, Array.empty_append] at hgr hr ⊢
      exact ⟨_, _, hr, hgr.1, hgr.2, .inr rfl⟩
    · have hl : (O.take n).length = n := by rw [List.length_take, hO, Nat.min_eq_left hnc]
      rw [hl] at hlen mk
      by_cases hroom : n + m ≤ cap
      · have hfit : n * i.size + (u32s news).length ≤ (u32s O).toArray.size := by simp [u32s, hsize, hnl, hO]; omega
        have hr := run_append_room (P := P) w t ty e i ht hi g n cap _ hbuf.bk ⟨b, o, none⟩ m c (u32s news) hnl2 hcells (u32s_one news) hroom hfit
        refine ⟨_, _, hr, .inr ⟨g, n + m, cap, O.take n ++ news ++ O.drop (n + m), rfl, hbg, ⟨?_, ?_⟩, ?_, hroom, hcm, ?_⟩, ⟨rfl, rfl, rfl, by simp, fun k _ hk => setRow_other w g k _ (fun e => hk (by simp [Value.ownBlock, e]))⟩, .inl rfl⟩
        · have hst := setRow_heap w g _ ((u32s O).take (n * i.size) ++ u32s news ++ (u32s O).drop (n * i.size + (u32s news).length)).toArray e _ hbuf.bk
          have e1 : (u32s O).take (n * i.size) ++ u32s news ++ (u32s O).drop (n * i.size + (u32s news).length) = u32s (O.take n ++ news ++ O.drop (n + m)) := by
            rw [hsize, Nat.mul_one, u32s_length, hnl]; simp [u32s, List.map_take, List.map_drop]
          rw [e1] at hst
          simp only [e1] at *
          exact hst
        · exact ((hbuf.bd.take _).append hs.bd).append (hbuf.bd.drop _)
        · simp only [List.length_append, hl, hnl, List.length_drop, hO]; omega
        · rw [List.take_left' (by rw [List.length_append, hl, hnl])]
      · have holds : ∀ j u, (u32s (O.take n))[j]? = some u → w.cell? ((⟨g, 0, none⟩ : Addr).add j) = some u := by
          intro j u hu
          rw [Addr.add_lit, Nat.zero_add, hbuf.bk.cell, List.getElem?_toArray]
          rw [← u32s_take, List.getElem?_take] at hu
          split at hu
          · exact hu
          · cases hu
        have hr := run_append_grow (P := P) w t ty e i _ ht hi hz ⟨g, 0, none⟩ n cap (u32s (O.take n)) (by rw [u32s_length, hl, hsize, Nat.mul_one]) holds ⟨b, o, none⟩ m c (u32s news) hnl2 hcells (by omega) (by omega) (growslice_fits (by omega) (by rw [hby]; omega))
        have hgr := mk cap (by omega) (Value.ownBlock (.slice (some ⟨g, 0, none⟩) n cap))
        exact ⟨_, _, hr, hgr.1, hgr.2, .inr rfl⟩

theorem wp_append_u32 {o : Oper} {a : Act} {K : Act → World → Prop} {Q : Exit → Act → World → Prop} (s x : Operand) (t : TypeId) (ho : o.op = .call { callee := .builtin .append, args := #[s, x], argTypes := #[t, t] })
    (base : Nat) (e : TypeId) (i : TypeInfo) (ht : P.underlying t = some (.slice e)) (hi : P.info? e = some i) (hz : i.zero = some (.int .u32 0)) (hsize : i.size = 1) (hby : i.bytes = 4)
    (v : Value) (l : List Nat) (hs : a.eval s = v) (hown : OwnL w base e v l) (B : Nat) (A : Option Addr) (m c : Nat) (news : List Nat) (hx : a.eval x = .slice A m c) (hl : Lim w B A m c news) (hlen : l.length + m ≤ 1099511627776) (hbase : base ≤ w.heap.size)
    (h : ∀ v' w', OwnL w' base e v' (l ++ news) → w.grownBy w' v.ownBlock → (v'.ownBlock = v.ownBlock ∨ v'.ownBlock = some w.heap.size) → K (a.put o.dst v') w') : o.wp P a w K Q := by
  obtain ⟨v', w', hr, h2, h3, h4⟩ := run_append_u32 (P := P) w base t o.type e i ht hi hz hsize hby v l hown B A m c news hl hlen hbase
  unfold Oper.wp execOp
  simp only [ho, resolve, invoke, builtin, Sem.run_bind, Sem.run_pure, Result.andThen_ok, List.map_toArray, List.map_cons, List.map_nil, hs, hx, hr]
  exact h v' w' h2 h3 h4

theorem wpList_append_u32 {ops : Array Oper} {rest : List Oper} {o : Oper} {a : Act} {Q : Exit → Act → World → Prop} (hgd : o.guard = none) (s x : Operand) (t : TypeId)
    (ho : o.op = .call { callee := .builtin .append, args := #[s, x], argTypes := #[t, t] })
    (base : Nat) (e : TypeId) (i : TypeInfo) (ht : P.underlying t = some (.slice e)) (hi : P.info? e = some i) (hz : i.zero = some (.int .u32 0)) (hsize : i.size = 1) (hby : i.bytes = 4)
    (v : Value) (l : List Nat) (hs : a.eval s = v) (hown : OwnL w base e v l) (B : Nat) (A : Option Addr) (m c : Nat) (news : List Nat) (hx : a.eval x = .slice A m c) (hl : Lim w B A m c news) (hlen : l.length + m ≤ 1099511627776) (hbase : base ≤ w.heap.size)
    (h : ∀ v' w', OwnL w' base e v' (l ++ news) → w.grownBy w' v.ownBlock → (v'.ownBlock = v.ownBlock ∨ v'.ownBlock = some w.heap.size) → wpList P ops Q rest (a.put o.dst v') w') : wpList P ops Q (o :: rest) a w :=
  wpList_plain hgd fun _ hK => wp_append_u32 w s x t ho base e i ht hi hz hsize hby v l hs hown B A m c news hx hl hlen hbase fun v' w' h2 h3 h4 => hK _ _ (h v' w' h2 h3 h4)
end

end Go.Proofs.YtfnibkodccfocaaGreat
