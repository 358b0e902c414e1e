/- Symbolic run of single operations: append, copy. No program is named here. -/
import Derived.Test.YtfnphhmcbdoojaaGreatDoorSimF
set_option linter.unusedSimpArgs false
namespace Go.Proofs.YtfnphhmcbdoojaaGreatDoor.Sim
open Go Go.RowKit Go.WideShapes

noncomputable section
variable {P : Program}
def srcOf (P : Program) (tx : TypeId) (x : Value) (size : Nat) (H : Heap) : Option (Nat × List Value) :=
  match und P tx, x with
  | some (.slice _), .slice none 0 _ => some (0, [])
  | some (.slice _), .slice (some ⟨b, o, none⟩) n _ => match hget H b with
    | some (.cells xs _) => match Nat.ble (o + n * size) xs.length, ((xs.drop o).take (n * size)).all (·.oneCell') with
      | true, true => some (n, (xs.drop o).take (n * size))
      | _, _ => none
    | _ => none
  | some .string, .string s => match Nat.beq size 1 with
    | true => some (s.size, byteCells s)
    | false => none
  | _, _ => none
theorem srcOf_ok {n0 : Nat} {ρ : Rn} {H : Heap} {W : World} {tx : TypeId} {x x' : Value} {size n : Nat} {news : List Value} (hs : srcOf P tx x size H = some (n, news)) (hx : VR ρ x x') (h : HR P n0 ρ H W) :
    ∃ news', LR ρ news news' ∧ Src P size tx x' n news' W := by
  unfold srcOf at hs
  simp only [inf_eq, und_eq, fun1_eq] at hs
  split at hs
  · rename_i e' c hk
    cases hs
    have := hx.lit_eq rfl
    subst this
    exact ⟨[], LR.nil ρ, Src.ofNil W hk c⟩
  · rename_i e' b o n' c hk
    obtain ⟨L, hL, c', rfl, -⟩ := hx.slice_inv
    split at hs
    · rename_i xs ty hb
      split at hs
      · rename_i hle h1
        cases hs
        obtain ⟨ys, k1, k2, k3⟩ := h.cells hb hL o (n * size) (Nat.le_of_ble_eq_true hle)
        exact ⟨ys, k1, Src.ofSlice W hk _ n c' ys k2 k3 (k1.ones h1)⟩
      · cases hs
    · cases hs
  · rename_i s hk
    have := hx.lit_eq rfl
    subst this
    split at hs
    · rename_i h1
      have h1 := (beq_of _ _).1 h1
      subst h1
      cases hs
      refine ⟨byteCells s, LR.lits ?_, Src.ofString W hk s⟩
      rw [List.all_eq_true]
      intro v hv
      obtain ⟨b, -, rfl⟩ := List.mem_map.1 hv
      rfl
    · cases hs
  · cases hs
theorem app_room {W : World} {t tx ty e te : TypeId} {i : TypeInfo} (ht : P.underlying t = some (.slice e)) (hi : P.info? e = some i) {g off sLen sCap n : Nat} {cur : Array Value} (hg : W.heap[g]? = some (.cells cur te (0, 0))) {x : Value} {news : List Value}
    (hs : Src P i.size tx x n news W) (hroom : sLen + n ≤ sCap) (hfit : off + sLen * i.size + news.length ≤ cur.size) :
    (Builtin.append_ #[t, tx] ty #[.slice (some ⟨g, off, none⟩) sLen sCap, x]).run P W = .ok (.slice (some ⟨g, off, none⟩) (sLen + n) sCap)
      (W.setRow g (cur.toList.take (off + sLen * i.size) ++ news ++ cur.toList.drop (off + sLen * i.size + news.length)).toArray) := by
  have hst := run_storeCells_at P g (off + sLen * i.size) te news 0 cur W hg (by simpa using hfit) hs.one
  simp only [Nat.add_zero] at hst
  rcases hs.kind with ⟨e', hk⟩ | hk <;> simp [Builtin.append_, run_underlying ht, run_underlying hk, sizeOf, typeInfo, hi, hs.len, hroom, hs.cells, Addr.add_lit, hst]
theorem app_none {W : World} {t tx ty e : TypeId} {i : TypeInfo} (ht : P.underlying t = some (.slice e)) (hi : P.info? e = some i) {x : Value} {news : List Value} (hs : Src P i.size tx x 0 news W) :
    (Builtin.append_ #[t, tx] ty #[.slice none 0 0, x]).run P W = .ok (.slice none 0 0) W := by
  rcases hs.kind with ⟨e', hk⟩ | hk <;> simp [Builtin.append_, run_underlying ht, run_underlying hk, sizeOf, typeInfo, hi, hs.len, hs.cells]
theorem Okay.of_drew {n0 : Nat} {ρ ρ' : Rn} {H H' : Heap} {W W' : World} {wr : List Nat} (h : Okay P n0 ρ H W.drew H' wr ρ' W') : Okay P n0 ρ H W H' wr ρ' W' :=
  ⟨h.ext, h.hr, ⟨h.below.os, h.below.tape, h.below.output, h.below.size, h.below.block⟩, h.fr, h.fr1⟩
theorem grown_ge (W : World) (need old : Nat) (e : TypeId) : need ≤ grownCap W need old e := by
  simp only [grownCap, Question.cut]
  omega
/-- A new row behind an append. -/
def sgrow (P : Program) (nm : Nat) (e : TypeId) (olds news : List Value) (need : Nat) (H : Heap) : Option (Value × Heap) :=
  match inf P e with
  | some i => match i.zero with
    | some z => match Nat.beq z.cells.toList.length i.size, Nat.ble (need * i.bytes) 140737488355328, Nat.ble (need + 1) UNK, snew nm e (olds ++ news) H with
      | true, true, true, some H' => some (.slice (some ⟨nm, 0, none⟩) need UNK, H')
      | _, _, _, _ => none
    | none => none
  | none => none
theorem sgrow_ok {n0 : Nat} {ρ : Rn} {H H' : Heap} {W : World} {nm : Nat} {t tx ty e : TypeId} {i : TypeInfo} {olds news olds' news' : List Value} {sLen sCap n : Nat} {base : Option Addr} {x' u : Value} (hs : sgrow P nm e olds news (sLen + n) H = some (u, H'))
    (ht : P.underlying t = some (.slice e)) (hi : P.info? e = some i) (ho : LR ρ olds olds') (hol : olds'.length = sLen * i.size) (hold : (Builtin.firstCells i.size sLen (.slice base sLen sCap)).run P W.drew = .ok olds'.toArray W.drew) (hn : LR ρ news news') (hsrc : Src P i.size tx x' n news' W)
    (hg : sCap < sLen + n) (h : HR P n0 ρ H W) (h0 : n0 ≤ W.heap.size) :
    ∃ ρ' W' u', (Builtin.append_ #[t, tx] ty #[.slice base sLen sCap, x']).run P W = .ok u' W' ∧ VR ρ' u u' ∧ Okay P n0 ρ H W H' [] ρ' W' := by
  unfold sgrow at hs
  simp only [inf_eq, und_eq, fun1_eq] at hs
  rw [hi] at hs
  simp only at hs
  split at hs
  · rename_i z hz
    split at hs
    · rename_i H2 e1 e2 e3 hnw
      cases hs
      have e1 := (beq_of _ _).1 e1
      have e2 := Nat.le_of_ble_eq_true e2
      have e3 := Nat.le_of_ble_eq_true e3
      have hunk : UNK = 9223372036854775808 := rfl
      have hrun := run_append_grow_src (P := P) W t tx ty e i z ht hi hz base sLen sCap olds' hold x' n news' hsrc hg (by omega) (growslice_fits hg e2)
      obtain ⟨ρ', g1, g2⟩ := snew_ok (W := W.drew) hnw (ho.append hn) h.drew h0 (Builtin.zeroCells z.cells (grownCap W (sLen + n) sCap e - (sLen + n))).toList
      have hge := grown_ge W (sLen + n) sCap e
      have hle := grownCap_le_maxLen W (sLen + n) sCap e (by simp only [maxLen]; omega)
      refine ⟨ρ', _, _, hrun, ?_, ?_⟩
      · have hzs : z.cells.size = i.size := by simpa using e1
        have := VR.sliceU (o := 0) (n := sLen + n) (c' := grownCap W (sLen + n) sCap e) g1 hge (by simp only [maxLen] at hle; omega) (by
          intro _
          simp only [szOf_eq hi, List.length_append, hol, hsrc.newsLen, Array.length_toList, size_zeroCells, hzs, Nat.zero_add]
          rw [← Nat.add_mul, ← Nat.add_mul]
          exact Nat.mul_le_mul_right _ (by omega))
        simpa using this
      · have e5 : ((olds' ++ news') ++ (Builtin.zeroCells z.cells (grownCap W (sLen + n) sCap e - (sLen + n))).toList).toArray = (olds' ++ news').toArray ++ Builtin.zeroCells z.cells (grownCap W (sLen + n) sCap e - (sLen + n)) := by
          apply Array.ext'
          simp
        rw [e5] at g2
        exact g2.of_drew
    · cases hs
  · cases hs

end
end Go.Proofs.YtfnphhmcbdoojaaGreatDoor.Sim
