/- Several texts in one. -/
import Derived.Test.YthlfhfkfjefidaaGreatSignI
import Derived.Test.YthlfhfkfjefidaaGreatRefA
import Derived.Laws.AppendOwnNone
import Derived.Test.YthlfhfkfjefidaaGreatIntG
/- The walk of packed of the reference. -/
namespace Go.Proofs.YthlfhfkfjefidaaGreat
open Go.RowKit
theorem own_set {w : World} {base e size n g o : Nat} {v u : Value} {xs : List Value} (h : w.ownsRow base e size v n xs) (hg : g < base) : (w.setCell ⟨g, o, none⟩ u).ownsRow base e size v n xs :=
 h.kept (row := some g) ⟨rfl, rfl, rfl, by simp [World.setCell], fun i _ hne => Below.heap_setCell w _ u i (fun e => hne (by rw [e]))⟩ (by
  cases hv : v.ownBlock with
  | none => exact .inl rfl
  | some q =>
    right
    intro e
    have := (h.lt q hv).1
    simp at e
    omega)
theorem pack_two : ∀ {l : List Int} {k : Nat} {x y : Int}, l[2 * k]? = some x → l[2 * k + 1]? = some y → pack (l.take (2 * k + 2)) = pack (l.take (2 * k)) ++ [(x + 65536 * y).toNat]
 | [], _, _, _, h, _ => by simp at h
 | [a], 0, _, _, _, h => by simp at h
 | [a], k + 1, _, _, h, _ => by simp at h
 | a :: b :: r, 0, x, y, h1, h2 => by simp at h1 h2; subst h1; subst h2; simp [pack]
 | a :: b :: r, k + 1, x, y, h1, h2 => by
   rw [show 2 * (k + 1) = 2 * k + 1 + 1 by omega] at h1 h2 ⊢
   simp only [List.getElem?_cons_succ] at h1 h2
   rw [show 2 * k + 1 + 1 + 2 = (2 * k + 2) + 1 + 1 by omega]
   simp only [List.take_succ_cons, pack, pack_two h1 h2, List.cons_append]
theorem pack_one : ∀ {l : List Int} {k : Nat} {x : Int}, l[2 * k]? = some x → l.length = 2 * k + 1 → pack l = pack (l.take (2 * k)) ++ [x.toNat]
 | [], _, _, h, _ => by simp at h
 | [a], 0, x, h, _ => by simp at h; subst h; simp [pack]
 | [a], k + 1, _, _, h => by simp at h
 | a :: b :: r, 0, _, _, h => by simp at h
 | a :: b :: r, k + 1, x, h1, h2 => by
   rw [show 2 * (k + 1) = 2 * k + 1 + 1 by omega] at h1 ⊢
   simp only [List.getElem?_cons_succ] at h1
   simp only [List.take_succ_cons, pack, List.cons_append]
   rw [pack_one h1 (by simp at h2; omega)]
theorem pack_length : ∀ l : List Int, 2 * (pack l).length ≤ l.length + 1
 | [] => by simp [pack]
 | [x] => by simp [pack]
 | x :: y :: r => by have := pack_length r; simp only [pack, List.length_cons]; omega
theorem Lim.of_own {w : World} {base e q c : Nat} {A : Option Addr} {l : List Nat} (h : w.ownsRow base e 1 (.slice A q c) q (u32s l)) (hb : Bd l) : Lim w w.heap.size A q c l := by
 obtain ⟨A2, c2, he, hs, -⟩ := Sl.of_own h
 simp only [Value.slice.injEq, true_and] at he
 obtain ⟨rfl, rfl⟩ := he
 exact ⟨hs, hb⟩
set_option maxRecDepth 100000 in
set_option maxHeartbeats 8000000 in
theorem packed_any (A : Option Addr) (n c : Nat) (l : List Int) (w : World) (hl : Nums w w.heap.size A n c l) (hn : n ≤ 10000) (hb : ∀ y ∈ l, 0 ≤ y ∧ y < 65536) :
 Calls Tryz.prog 99 #[.slice A n c] w fun e w' => Below w.heap.size w w' ∧ ∃ A' m' c' ls, e = .returned (.agg #[.bool false, .slice A' m' c']) ∧ Lim w' w'.heap.size A' m' c' ls ∧ Norm ls ∧ val ls = val (pack l) := by
 have hcap := hl.cap
 have hmax := hl.max
 have HLEN := Lib.hid hl.len
 have HB := Lib.hid hb
 have H : Hid (∀ w', Below w.heap.size w w' → Nums w' w.heap.size A n c l) := fun w' hb => hl.below hb (Nat.le_refl _) (Nat.le_refl _)
 obtain ⟨i0, hi0, hz0, hz1, hz2⟩ := info_parts info_u32
 have HI0 := Lib.hid hi0
 have HZ0 := Lib.hid hz0
 have HZ1 := Lib.hid hz1
 have HZ2 := Lib.hid hz2
 clear hi0 hz0 hz1 hz2 hl hb
 go_enter Tryz.func99, Tryz.ntmps99
 go_wp2
 go_loopw [4, 5] (fun x _ wr => ∃ (k j q : Nat) (A' : Option Addr) (c' : Nat), x = .int .i64 (j : Int) ∧ j = 2 * k ∧ j ≤ n + 1 ∧ q = (pack (l.take j)).length ∧ wr.ownsRow (w.heap.size + 2) 81 1 (.slice A' q c') q (u32s (pack (l.take j))) ∧ Bk wr (w.heap.size + 1) 24 #[.bool false, .slice A' q c'] ∧ Bk wr w.heap.size 24 #[.bool false, .slice none 0 0] ∧ Below w.heap.size w wr) (fun x _ _ => n + 1 - (intOf x).toNat)
 case atStart => exact ⟨0, 0, 0, none, 0, rfl, rfl, by omega, rfl, World.ownsRow_nil _ _ _ _, alloc2_bk _ _ _ _, (Bk.alloc_ _ _ _).alloc _, (by repeat (first | exact Below.refl _ _ | assumption | refine Below.drew ?_ | refine Below.drewN ?_ _ | refine Below.alloc ?_ (by simp <;> omega) _ | refine Below.setCell ?_ (by simp <;> omega) _))⟩
 case round =>
  obtain ⟨k, j, q, A', c', rfl, hj, hjn, hq, hown, hbk, hrk, hb⟩ := hrel
  have HBR := Lib.hid hb
  have HOWN := Lib.hid hown
  have HBK := Lib.hid hbk
  have HRK := Lib.hid hrk
  have HJ := Lib.hid hj
  have HQ := Lib.hid hq
  have ow := hb.size
  have og := hbk.lt
  have hq2 : q ≤ 10001 := by
   have h1 := pack_length (l.take j)
   have h2 := List.length_take_le' j l
   rw [HLEN.out] at h2
   omega
  have a0 : wr.cell? ⟨w.heap.size + 1, 1, none⟩ = some (.slice A' q c') := by simpa using hbk.cell 1
  clear hown hbk hrk hq hj
  by_cases hlt : j + 1 < n
  · obtain ⟨b, o, x, rfl, hbb, hx, c0⟩ := (H.out _ hb).at_ (show j < n by omega)
    obtain ⟨b2, o2, y, he, hbb2, hy, c1'⟩ := (H.out _ hb).at_ hlt
    simp only [Option.some.injEq, Addr.mk.injEq, and_true] at he
    obtain ⟨rfl, rfl⟩ := he
    have hxb := HB.out x (List.mem_of_getElem? hx)
    have hyb := HB.out y (List.mem_of_getElem? hy)
    have HS : Hid (pack (l.take (j + 2)) = pack (l.take j) ++ [(x + 65536 * y).toNat]) := Lib.hid (by
     have hj := HJ.out
     subst hj
     exact pack_two hx hy)
    clear hx hy hb
    go_wp2_with (at_builtin; go_loud (refine wpList_append_own_at _ rfl _ _ _ rfl (w.heap.size + 2) 81 i0 _ 1 4 Tryz.underlying22 HI0.out HZ0.out HZ1.out HZ2.out rfl (by omega) _ _ _ rfl (HOWN.out.alloc _) ⟨wr.heap.size, 0, none⟩ 1 1 [.int .u32 (x + 65536 * y)] rfl rfl (World.news_of_block (cs := #[.int .u32 (x + 65536 * y)]) (t := 81) (fr := (0, 0)) (heap_alloc_new wr _)) (by intro u hu; simp at hu; subst hu; rfl) (by unfold maxLen; omega) (by omega) (by simp; omega) ?_; intro v1 w1 hown1 hg1 _ _; have hbk1 : Bk w1 (w.heap.size + 1) 24 #[.bool false, .slice A' q c'] := (hg1.block _ (by simp; omega) (fun e => by have := (HOWN.out.lt _ e.symm).1; omega)).trans (HBK.out.alloc _); have hbr1 : Bk w1 w.heap.size 24 #[.bool false, .slice none 0 0] := (hg1.block _ (by simp; omega) (fun e => by have := (HOWN.out.lt _ e.symm).1; omega)).trans (HRK.out.alloc _); obtain ⟨A1, c1, rfl, -, -⟩ := Sl.of_own hown1; have fz := hbk1.frozen 1; have ac : w1.cell? ⟨w.heap.size + 1, 1, none⟩ = some (.slice A' q c') := (by simpa using hbk1.cell 1); have HO1 := Lib.hid hown1; have HG1 := Lib.hid hg1; have HBK1 := Lib.hid hbk1; have HBR1 := Lib.hid hbr1; clear hown1 hg1 hbk1 hbr1))
    go_roundw
    case rel =>
     have hb0 := HBR.out
     have hT : pack (l.take (j + 2)) = pack (l.take j) ++ [(x + 65536 * y).toNat] := HS.out
     refine ⟨k + 1, j + 2, q + 1, A1, c1, by go_num, by have := HJ.out; omega, by omega, by rw [hT, List.length_append, ← HQ.out]; rfl, ?_, ?_, ?_, ?_⟩
     · have h1 := own_set (o := 1) (u := .slice A1 (q + 1) c1) HO1.out (show w.heap.size + 1 < w.heap.size + 2 by omega)
       rw [hT, u32s_append]
       have e : u32s [(x + 65536 * y).toNat] = [.int .u32 (x + 65536 * y)] := by simp [u32s]; omega
       rw [e]
       exact h1
     · have := HBK1.out.set_ 1 (.slice A1 (q + 1) c1)
       simpa using this
     · exact HBR1.out.other (by simp) _
     · have hb1 : Below w.heap.size w w1 := (Below.alloc hb0 hb0.size _).grown HG1.out (by simp; omega) (fun q hq => by have := (HOWN.out.lt _ hq).1; omega)
       exact hb1.setCell (by simp) _
    case measure => (simp [intOf]; omega)
  · by_cases hlt2 : j < n
    · obtain ⟨b, o, x, rfl, hbb, hx, c0⟩ := (H.out _ hb).at_ hlt2
      have hxb := HB.out x (List.mem_of_getElem? hx)
      have HS : Hid (pack (l.take (j + 2)) = pack (l.take j) ++ [(x).toNat]) := Lib.hid (by
       have hj := HJ.out
       subst hj
       rw [List.take_of_length_le (by rw [HLEN.out]; omega)]
       exact pack_one hx (by rw [HLEN.out]; omega))
      clear hx hb
      go_wp2_with (at_builtin; go_loud (refine wpList_append_own_at _ rfl _ _ _ rfl (w.heap.size + 2) 81 i0 _ 1 4 Tryz.underlying22 HI0.out HZ0.out HZ1.out HZ2.out rfl (by omega) _ _ _ rfl (HOWN.out.alloc _) ⟨wr.heap.size, 0, none⟩ 1 1 [.int .u32 (x)] rfl rfl (World.news_of_block (cs := #[.int .u32 (x)]) (t := 81) (fr := (0, 0)) (heap_alloc_new wr _)) (by intro u hu; simp at hu; subst hu; rfl) (by unfold maxLen; omega) (by omega) (by simp; omega) ?_; intro v1 w1 hown1 hg1 _ _; have hbk1 : Bk w1 (w.heap.size + 1) 24 #[.bool false, .slice A' q c'] := (hg1.block _ (by simp; omega) (fun e => by have := (HOWN.out.lt _ e.symm).1; omega)).trans (HBK.out.alloc _); have hbr1 : Bk w1 w.heap.size 24 #[.bool false, .slice none 0 0] := (hg1.block _ (by simp; omega) (fun e => by have := (HOWN.out.lt _ e.symm).1; omega)).trans (HRK.out.alloc _); obtain ⟨A1, c1, rfl, -, -⟩ := Sl.of_own hown1; have fz := hbk1.frozen 1; have ac : w1.cell? ⟨w.heap.size + 1, 1, none⟩ = some (.slice A' q c') := (by simpa using hbk1.cell 1); have HO1 := Lib.hid hown1; have HG1 := Lib.hid hg1; have HBK1 := Lib.hid hbk1; have HBR1 := Lib.hid hbr1; clear hown1 hg1 hbk1 hbr1))
      go_roundw
      case rel =>
       have hb0 := HBR.out
       have hT : pack (l.take (j + 2)) = pack (l.take j) ++ [(x).toNat] := HS.out
       refine ⟨k + 1, j + 2, q + 1, A1, c1, by go_num, by have := HJ.out; omega, by omega, by rw [hT, List.length_append, ← HQ.out]; rfl, ?_, ?_, ?_, ?_⟩
       · have h1 := own_set (o := 1) (u := .slice A1 (q + 1) c1) HO1.out (show w.heap.size + 1 < w.heap.size + 2 by omega)
         rw [hT, u32s_append]
         have e : u32s [(x).toNat] = [.int .u32 (x)] := by simp [u32s]; omega
         rw [e]
         exact h1
       · have := HBK1.out.set_ 1 (.slice A1 (q + 1) c1)
         simpa using this
       · exact HBR1.out.other (by simp) _
       · have hb1 : Below w.heap.size w w1 := (Below.alloc hb0 hb0.size _).grown HG1.out (by simp; omega) (fun q hq => by have := (HOWN.out.lt _ hq).1; omega)
         exact hb1.setCell (by simp) _
      case measure => (simp [intOf]; omega)
    · have HX : Hid (pack (l.take j) = pack l) := Lib.hid (by rw [List.take_of_length_le (by rw [HLEN.out]; omega)])
      have ho := HOWN.out
      rw [HX.out] at ho
      have HO := Lib.hid ho
      have hL : Lim wr wr.heap.size A' q c' (pack l) := Lim.of_own ho (pack_bd l HB.out)
      clear ho
      have hcap2 := hL.cap
      have hmax2 := hL.max
      have HL := Lib.hid hL
      have kx1 := HBK.out.frozen 1
      obtain ⟨x0, x1⟩ : wr.cell? ⟨w.heap.size + 1, 0, none⟩ = some (.bool false) ∧ wr.cell? ⟨w.heap.size + 1, 1, none⟩ = some (.slice A' q c') := ⟨by simpa using HBK.out.cell 0, by simpa using HBK.out.cell 1⟩
      obtain ⟨r0, r1⟩ : wr.cell? ⟨w.heap.size, 0, none⟩ = some (.bool false) ∧ wr.cell? ⟨w.heap.size, 1, none⟩ = some (.slice none 0 0) := ⟨by simpa using HRK.out.cell 0, by simpa using HRK.out.cell 1⟩
      have fr0 := HRK.out.frozen 0
      have fr1 := HRK.out.frozen 1
      clear hb hL
      go_wp2
      go_loop [6] (fun i => ∃ k : Nat, k ≤ q ∧ i = .int .i64 k ∧ Hid (∀ j, k ≤ j → (pack l).getD j 0 = 0)) (fun i => (intOf i).toNat)
      case atStart => exact ⟨q, Nat.le_refl _, rfl, fun j hj => by rw [List.getD_eq_getElem?_getD, List.getElem?_eq_none (by rw [HL.out.len]; exact hj)]; rfl⟩
      case round =>
       obtain ⟨p, hp, rfl, hz⟩ := hrel
       rcases Nat.eq_zero_or_pos p with h0 | h0
       · subst h0
         go_wp2
         refine bodyPost_ret (v := .agg #[.bool false, .slice A' (0) c']) (by simp [results, Tryz.results99, go_sem, r0, r1]) rfl ?_
         refine ⟨((HBR.out.setCell (by simp) _).setCell (by simp) _).setCell (by simp) _, _, 0, c', rfl, _, (Lim.of_own (own_set (own_set (own_set HO.out (by omega)) (by omega)) (by omega)) (pack_bd l HB.out)).take hp, ?_, val_take_zeros hz.out⟩
         exact norm_take (by omega) (.inl rfl)
       · obtain ⟨r, rfl⟩ : ∃ r, p = r + 1 := ⟨p - 1, by omega⟩
         obtain ⟨b, o, x, rfl, hb, hx, hxb, hc⟩ := HL.out.at_ (k := r) (by omega)
         have HXX := Lib.hid hx
         clear hx
         by_cases hx0 : x = 0
         · subst hx0
           go_wp2
           refine ⟨⟨r, by omega, rfl, Lib.hid fun j hj => ?_⟩, by simp [intOf]⟩
           rcases Nat.eq_or_lt_of_le hj with rfl | hj
           · rw [List.getD_eq_getElem?_getD, HXX.out]; rfl
           · exact hz.out j hj
         · have hxi : ¬ (x : Int) = 0 := by omega
           have hxj : ((x : Int) == 0) = false := by simpa using hxi
           go_wp2
           refine bodyPost_ret (v := .agg #[.bool false, .slice (some ⟨b, o, none⟩) (r + 1) c']) (by simp [results, Tryz.results99, go_sem, r0, r1]) rfl ?_
           refine ⟨((HBR.out.setCell (by simp) _).setCell (by simp) _).setCell (by simp) _, _, r + 1, c', rfl, _, (Lim.of_own (own_set (own_set (own_set HO.out (by omega)) (by omega)) (by omega)) (pack_bd l HB.out)).take hp, ?_, val_take_zeros hz.out⟩
           refine norm_take (by rw [HL.out.len]; exact hp) (.inr ?_)
           rw [List.getD_eq_getElem?_getD, Nat.add_sub_cancel, HXX.out]
           exact hx0
end Go.Proofs.YthlfhfkfjefidaaGreat
/- The walk of settled of the reference. -/
namespace Go.Proofs.YthlfhfkfjefidaaGreat
open Go.RowKit
theorem wpList_append_own_row {P : Program} {w : World} {ops : Array Oper} {rest : List Oper} {o : Oper} {a : Act} {Q : Exit → Act → World → Prop} (hgd : o.guard = none) (s x : Operand) (t : TypeId)
 (ho : o.op = .call { callee := .builtin .append, args := #[s, x], argTypes := #[t, t] })
 (base : Nat) (e : TypeId) (i : TypeInfo) (z : Value) (size bytes : Nat) (ht : P.underlying t = some (.slice e)) (hi : P.info? e = some i) (hz : i.zero = some z)
 (hsize : i.size = size) (hby : i.bytes = bytes) (hzs : z.cells.size = size) (hsz : 0 < size)
 (v : Value) (n : Nat) (xs : List Value) (hs : a.eval s = v) (hown : w.ownsRow base e size v n xs)
 (base2 : Nat) (e2 : TypeId) (A : Option Addr) (m c : Nat) (news : List Value) (hx : a.eval x = .slice A m c) (hrow : w.ownsRow base2 e2 size (.slice A m c) m news) (h1 : ∀ u ∈ news, u.oneCell' = true)
 (h63 : n + m ≤ maxLen) (hbytes : (n + m) * bytes ≤ 140737488355328) (hbase : base ≤ w.heap.size)
 (h : ∀ v' w', w'.ownsRow base e size v' (n + m) (xs ++ news) → w.grownBy w' v.ownBlock → wpList P ops Q rest (a.put o.dst v') w') :
 wpList P ops Q (o :: rest) a w := by
 rcases hrow.2 with ⟨hv, hm⟩ | ⟨g, cap, cur, hv, -⟩
 · simp only [Value.slice.injEq] at hv
   obtain ⟨rfl, rfl, rfl⟩ := hv
   have hnil : news = [] := List.eq_nil_of_length_eq_zero (by have := hrow.1; omega)
   subst hnil
   refine wpList_append_own_none hgd s x t ho base e i size ht hi v n xs hs hown hx ?_
   exact h v w (by simpa using hown) ⟨rfl, rfl, rfl, Nat.le_refl _, fun _ _ _ => rfl⟩
 · simp only [Value.slice.injEq, true_and] at hv
   obtain ⟨rfl, rfl⟩ := hv
   exact wpList_append_own_at _ hgd s x t ho base e i z size bytes ht hi hz hsize hby hzs hsz v n xs hs hown ⟨g, 0, none⟩ m c news hx hrow.1 (hrow.cells (g := g) rfl) h1 h63 hbytes hbase fun v' w' h1 h2 _ _ => h v' w' h1 h2
theorem own_mono {w : World} {b b' e size n : Nat} {v : Value} {xs : List Value} (h : w.ownsRow b e size v n xs) (hb : b' ≤ b) : w.ownsRow b' e size v n xs := by
 refine ⟨h.1, ?_⟩
 rcases h.2 with h | ⟨g, cap, cur, h1, h2, h3⟩
 · exact .inl h
 · exact .inr ⟨g, cap, cur, h1, Nat.le_trans hb h2, h3⟩
theorem own_form {w : World} {b e size n c : Nat} {A : Option Addr} {xs : List Value} (h : w.ownsRow b e size (.slice A n c) n xs) (hn : 0 < n) : ∃ g, A = some ⟨g, 0, none⟩ := by
 rcases h.2 with ⟨h, h0⟩ | ⟨g, cap, cur, h1, h2, h3⟩
 · omega
 · simp only [Value.slice.injEq, true_and] at h1
   exact ⟨g, h1.1⟩
theorem i64s_one (l : List Int) : ∀ u ∈ i64s l, u.oneCell' = true := by
 intro u hu; simp [i64s] at hu; obtain ⟨x, _, rfl⟩ := hu; rfl
theorem i64s_append (l k : List Int) : i64s l ++ i64s k = i64s (l ++ k) := by simp [i64s]
theorem i64s_set (l : List Int) (k : Nat) (x : Int) : (i64s l).set k (.int .i64 x) = i64s (l.set k x) := by simp [i64s, List.map_set]
theorem Nums.own {w : World} {base t n c : Nat} {A : Option Addr} {l : List Int} (h : w.ownsRow base t 1 (.slice A n c) n (i64s l)) : Nums w w.heap.size A n c l := by
 obtain ⟨A', c', e, hs⟩ := Nums.of_own h
 simp only [Value.slice.injEq, true_and] at e
 obtain ⟨rfl, rfl⟩ := e
 exact hs
theorem negs_set {l xs : List Int} {k : Nat} {x : Int} (hx : l[k]? = some x) (hl : xs.length = l.length) : ((l.take k).map (fun x => -x) ++ xs.drop k).set k (-x) = (l.take (k + 1)).map (fun x => -x) ++ xs.drop (k + 1) := by
 have hk : k < l.length := (List.getElem?_eq_some_iff.1 hx).1
 have h1 : ((l.take k).map (fun x => -x)).length = k := by rw [List.length_map, List.length_take]; omega
 rw [List.set_append, h1, if_neg (by omega), Nat.sub_self, List.drop_eq_getElem_cons (by omega), List.set_cons_zero, List.take_add_one, hx]
 simp
theorem settled_in (l : List Int) (k : Int) (f m : Nat) : ∀ y ∈ carr k l ++ spr f m, 0 ≤ y ∧ y < 65536 := fun y hy => by
 rcases List.mem_append.1 hy with h | h
 · exact carr_in l k y h
 · exact spr_in _ _ y h
theorem settled_pos {l : List Int} {m : Nat} (hm : carrK 0 l = (m : Int)) (hb : m ≤ 1152921504606846976) : ((val (pack (carr 0 l ++ spr 4 m)) : Nat) : Int) = valc l := by
 have := settled_val (c := l) (f := 4) (by omega) (by rw [hm]; omega)
 rwa [hm, Int.toNat_natCast] at this
set_option maxRecDepth 100000 in
set_option maxHeartbeats 8000000 in
theorem settled_pos_any (A : Option Addr) (n c m : Nat) (l : List Int) (w : World) (hl : Nums w w.heap.size A n c l) (hn : n ≤ 5000) (hb : ∀ y ∈ l, -1152921504606846976 ≤ y ∧ y ≤ 1152921504606846976) (hm : carrK 0 l = (m : Int)) (hm2 : m ≤ 1152921504606846976) :
 Calls Tryz.prog 59 #[.slice A n c] w (IntR (valc l) w) := by
 have HV := Lib.hid (settled_pos hm hm2)
 have HN := Lib.hid (show (carr 0 l).length = n by rw [carr_length]; exact hl.len)
 have HC : Hid (∀ w', Below w.heap.size w w' → w.heap.size + 1 ≤ w'.heap.size → Calls Tryz.prog 98 #[.slice A n c] w' fun e w'' => Below w'.heap.size w' w'' ∧ ∃ A' c', e = .returned (.tuple #[.slice A' n c', .int .i64 (m : Int)]) ∧ w''.ownsRow (w.heap.size + 1) 3 1 (.slice A' n c') n (i64s (carr 0 l))) := Lib.hid fun w' hb' hs => (carried_any A n c l w' (hl.below hb' (Nat.le_refl _) hb'.size) (by omega) hb).mono fun e w'' h => by
  obtain ⟨h1, A', c', rfl, h2⟩ := h
  exact ⟨h1, A', c', by rw [hm], own_mono h2 hs⟩
 obtain ⟨i0, hi0, hz0, hz1, hz2⟩ := info_parts info_int1
 have HI0 := Lib.hid hi0
 have HZ0 := Lib.hid hz0
 have HZ1 := Lib.hid hz1
 have HZ2 := Lib.hid hz2
 have HSL := spr_length 4 m
 clear hi0 hz0 hz1 hz2 hl hb hm
 go_enter Tryz.func59, Tryz.ntmps59
 go_wp2_with (first
  | (go_at_call 98; with_reducible refine (HC.out _ ?_ ?_).mono ?_; (focus (exact (by repeat (first | exact Below.refl _ _ | assumption | refine Below.drew ?_ | refine Below.drewN ?_ _ | refine Below.alloc ?_ (by simp <;> omega) _ | refine Below.setCell ?_ (by simp <;> omega) _)))); (focus (simp)); rintro e w1 ⟨hb1, A1, c1, rfl, ho1⟩; have HO1 := Lib.hid ho1; have hz1 := hb1.size; (try simp at hz1); have k1 : Bk w1 w.heap.size 24 #[.bool false, .slice none 0 0] := (Bk.alloc_ w _ _).below hb1 (by simp); have B1 : Below w.heap.size w w1 := (show Below w.heap.size w (w.alloc _) from (by repeat (first | exact Below.refl _ _ | assumption | refine Below.drew ?_ | refine Below.drewN ?_ _ | refine Below.alloc ?_ (by simp <;> omega) _ | refine Below.setCell ?_ (by simp <;> omega) _))).trans (hb1.mono (by simp)); clear ho1)
  | (go_at_call 100; with_reducible refine (spread_any m 4 _ (by omega) (by omega) (by omega)).mono ?_; rintro e w2 ⟨hb2, A2, n2, c2, rfl, hn2, ho2⟩; have hq2 : n2 ≤ 4 := (by rw [hn2]; exact HSL); clear hn2; have HO2 := Lib.hid ho2; have HP := Lib.hid (own_step HO1.out hb2); have hz2 := hb2.size; have k2 : Bk w2 w.heap.size 24 #[.bool false, .slice none 0 0] := k1.below hb2 (by omega); have B2 : Below w.heap.size w w2 := B1.trans (hb2.mono (by omega)); clear ho2)
  | (at_builtin; go_loud (refine wpList_append_own_row rfl _ _ _ rfl (w.heap.size + 1) 3 i0 _ 1 8 Tryz.underlying79 HI0.out HZ0.out HZ1.out HZ2.out rfl (by omega) _ _ _ rfl HP.out w1.heap.size 3 _ _ _ _ rfl HO2.out (i64s_one _) (by unfold maxLen; omega) (by omega) (by omega) ?_; intro v1 w3 hown3 hg3; obtain ⟨A3, c3, rfl, -, -⟩ := Sl.of_own hown3; have HO3 := Lib.hid hown3; have HG3 := Lib.hid hg3; have hz3 := hg3.size; have k3 : Bk w3 w.heap.size 24 #[.bool false, .slice none 0 0] := (hg3.block _ (by omega) (fun e => by have := (HP.out.lt _ e.symm).1; omega)).trans k2; have B3 : Below w.heap.size w w3 := B2.grown hg3 (by omega) (fun q hq => by have := (HP.out.lt _ hq).1; omega); clear hown3 hg3))
  | (go_at_call 99; go_loud (with_reducible refine (packed_any A3 _ c3 (carr 0 l ++ spr 4 m) _ ?_ ?_ (settled_in l 0 4 m)).mono ?_; (focus (have h := HO3.out; rw [i64s_append] at h; exact Nums.own h)); (focus (omega)); rintro e w4 ⟨hb4, A4, n4, c4, ls, rfl, hl4, hnl, hv4⟩; have hz4 := hb4.size; have k4 : Bk w4 w.heap.size 24 #[.bool false, .slice none 0 0] := k3.below hb4 (by omega); have B4 : Below w.heap.size w w4 := B3.trans (hb4.mono (by omega)); have og := k4.lt; obtain ⟨r0, r1⟩ : w4.cell? ⟨w.heap.size, 0, none⟩ = some (.bool false) ∧ w4.cell? ⟨w.heap.size, 1, none⟩ = some (.slice none 0 0) := ⟨by simpa using k4.cell 0, by simpa using k4.cell 1⟩; have fr0 := k4.frozen 0; have fr1 := k4.frozen 1; have HL4 := Lib.hid hl4; have HN4 := Lib.hid hnl; have HV4 := Lib.hid hv4; have HB4 := Lib.hid B4; have HK4 := Lib.hid k4; clear hl4 hnl hv4 B1 B2 B3 B4 k1 k2 k3 k4)))
 refine bodyPost_ret (v := .agg #[.bool false, .slice A4 n4 c4]) (by simp [results, Tryz.results59, go_sem, r0, r1]) rfl ?_
 refine ⟨(HB4.out.setCell (by simp) _).setCell (by simp) _, _, rfl, false, A4, n4, c4, ls, rfl, (HL4.out.past HK4.out _ _).mono (by simp [World.setCell]), HN4.out, ?_, fun h => by cases h⟩
 rw [sg_false, HV4.out, HV.out]
set_option maxRecDepth 100000 in
set_option maxHeartbeats 8000000 in
theorem settled_neg_any (A : Option Addr) (n c m : Nat) (K : Int) (l : List Int) (w : World) (hl : Nums w w.heap.size A n c l) (hn : n ≤ 5000) (hb : ∀ y ∈ l, -1152921504606846976 ≤ y ∧ y ≤ 1152921504606846976) (hK : carrK 0 l = K) (hK0 : K < 0) (hm : carrK 0 (l.map fun x => -x) = (m : Int)) (hm2 : m ≤ 1152921504606846976) :
 Calls Tryz.prog 59 #[.slice A n c] w (IntR (valc l) w) := by
 have hcap := hl.cap
 have hmax := hl.max
 have HV := Lib.hid (settled_pos hm hm2)
 have HN := Lib.hid (show (carr 0 (l.map fun x => -x)).length = n by rw [carr_length, List.length_map]; exact hl.len)
 have HLEN := Lib.hid hl.len
 have HB := Lib.hid hb
 have H : Hid (∀ w', Below w.heap.size w w' → Nums w' w.heap.size A n c l) := fun w' hb => hl.below hb (Nat.le_refl _) (Nat.le_refl _)
 have HC : Hid (∀ w', Below w.heap.size w w' → w.heap.size + 1 ≤ w'.heap.size → Calls Tryz.prog 98 #[.slice A n c] w' fun e w'' => Below w'.heap.size w' w'' ∧ ∃ A' c', e = .returned (.tuple #[.slice A' n c', .int .i64 K]) ∧ w''.ownsRow (w.heap.size + 1) 3 1 (.slice A' n c') n (i64s (carr 0 l))) := Lib.hid fun w' hb' hs => (carried_any A n c l w' (hl.below hb' (Nat.le_refl _) hb'.size) (by omega) hb).mono fun e w'' h => by
  obtain ⟨h1, A', c', rfl, h2⟩ := h
  exact ⟨h1, A', c', by rw [hK], own_mono h2 hs⟩
 have HC2 : Hid (∀ w' A2 c2, w.heap.size + 1 ≤ w'.heap.size → Nums w' w'.heap.size A2 n c2 (l.map fun x => -x) → Calls Tryz.prog 98 #[.slice A2 n c2] w' fun e w'' => Below w'.heap.size w' w'' ∧ ∃ A' c', e = .returned (.tuple #[.slice A' n c', .int .i64 (m : Int)]) ∧ w''.ownsRow (w.heap.size + 1) 3 1 (.slice A' n c') n (i64s (carr 0 (l.map fun x => -x)))) := Lib.hid fun w' A2 c2 hs hl2 => (carried_any A2 n c2 _ w' hl2 (by omega) (fun y hy => by
  obtain ⟨x, hx, rfl⟩ := List.mem_map.1 hy
  have := hb x hx
  omega)).mono fun e w'' h => by
  obtain ⟨h1, A', c', rfl, h2⟩ := h
  exact ⟨h1, A', c', by rw [hm], own_mono h2 hs⟩
 have hn0 : 0 < n := by
  rcases Nat.eq_zero_or_pos n with h | h
  · have : l = [] := List.eq_nil_of_length_eq_zero (by rw [hl.len, h])
    subst this
    simp only [carrK] at hK
    omega
  · exact h
 obtain ⟨i0, hi0, hz0, hz1, hz2⟩ := info_parts info_int1
 have HI0 := Lib.hid hi0
 have HZ0 := Lib.hid hz0
 have HZ1 := Lib.hid hz1
 have HZ2 := Lib.hid hz2
 have HSL := spr_length 4 m
 clear hi0 hz0 hz1 hz2 hl hb hm hK
 go_enter Tryz.func59, Tryz.ntmps59
 go_wp2_with (first
  | (go_at_call 98; with_reducible refine (HC.out _ ?_ ?_).mono ?_; (focus (exact (by repeat (first | exact Below.refl _ _ | assumption | refine Below.drew ?_ | refine Below.drewN ?_ _ | refine Below.alloc ?_ (by simp <;> omega) _ | refine Below.setCell ?_ (by simp <;> omega) _)))); (focus (simp)); rintro e w1 ⟨hb1, A1, c1, rfl, ho1⟩; obtain ⟨g, hA1⟩ := own_form ho1 hn0; subst hA1; have HO1 := Lib.hid ho1; have hz1 := hb1.size; (try simp at hz1); have k1 : Bk w1 w.heap.size 24 #[.bool false, .slice none 0 0] := (Bk.alloc_ w _ _).below hb1 (by simp); have B1 : Below w.heap.size w w1 := (show Below w.heap.size w (w.alloc _) from (by repeat (first | exact Below.refl _ _ | assumption | refine Below.drew ?_ | refine Below.drewN ?_ _ | refine Below.alloc ?_ (by simp <;> omega) _ | refine Below.setCell ?_ (by simp <;> omega) _))).trans (hb1.mono (by simp)); have hgb := (ho1.lt g rfl).1; have HK1 := Lib.hid k1; have HB1 := Lib.hid B1; clear ho1 k1 B1 hb1))
 go_loopw [5] (fun x wr => ∃ k : Nat, k ≤ n ∧ x = .int .i64 k ∧ wr.ownsRow (w.heap.size + 1) 3 1 (.slice (some ⟨g, 0, none⟩) n c1) n (i64s ((l.take k).map (fun x => -x) ++ (carr 0 l).drop k)) ∧ Bk wr w.heap.size 24 #[.bool false, .slice none 0 0] ∧ Below w.heap.size w wr) (fun x _ => n - (intOf x).toNat)
 case atStart => exact ⟨0, Nat.zero_le _, rfl, HO1.out, HK1.out, HB1.out⟩
 case round =>
  obtain ⟨k, hk, rfl, hown, hbk, hb⟩ := hrel
  have HBR := Lib.hid hb
  have HOWN := Lib.hid hown
  have HBK := Lib.hid hbk
  have ow := hb.size
  have og := hbk.lt
  have hgl := (hown.lt g rfl).2
  clear hbk
  by_cases hlt : k < n
  · obtain ⟨b, o, x, rfl, hbb, hx, c0⟩ := (H.out _ hb).at_ hlt
    have hxb := HB.out x (List.mem_of_getElem? hx)
    have HS := Lib.hid (negs_set (xs := carr 0 l) hx (carr_length l 0))
    have c1' := hown.cellAt k (by omega)
    have hlen := hown.1
    have f1 := hown.frozenAt k
    rw [List.getElem?_eq_getElem (by omega)] at c1'
    generalize ((i64s ((l.take k).map (fun x => -x) ++ (carr 0 l).drop k))[k]'_) = u at c1'
    clear hx hb hown hlen
    go_wp2
    go_roundw
    case rel =>
     have hb0 := HBR.out
     refine ⟨k + 1, by omega, by go_num, ?_, HBK.out.other (by simp; omega) _, hb0.setCell (by simp; omega) _⟩
     have h1 := (HOWN.out.stored k (.int .i64 (-x))).1
     rw [i64s_set, HS.out] at h1
     exact h1
    case measure => (simp [intOf]; omega)
  · obtain rfl : k = n := by omega
    have hL : Nums wr wr.heap.size (some ⟨g, 0, none⟩) k c1 (l.map fun x => -x) := by
     have h := Nums.own HOWN.out
     rw [List.take_of_length_le (by rw [HLEN.out]; exact Nat.le_refl _), List.drop_eq_nil_of_le (by rw [carr_length, HLEN.out]; exact Nat.le_refl _), List.append_nil] at h
     exact h
    have hcap1 := hL.cap
    have hmax1 := hL.max
    have HL := Lib.hid hL
    have HBR := HBR
    clear hL hb
    go_wp2_with (first
     | (go_at_call 98; with_reducible refine (HC2.out _ _ _ ?_ HL.out).mono ?_; (focus (omega)); rintro e w1' ⟨hb1, A1, c1', rfl, ho1⟩; have HO1' := Lib.hid ho1; have hz1' := hb1.size; have k1 : Bk w1' w.heap.size 24 #[.bool false, .slice none 0 0] := HBK.out.below hb1 (by omega); have B1 : Below w.heap.size w w1' := HBR.out.trans (hb1.mono (by omega)); clear ho1)
     | (go_at_call 100; with_reducible refine (spread_any m 4 _ (by omega) (by omega) (by omega)).mono ?_; rintro e w2 ⟨hb2, A2, n2, c2, rfl, hn2, ho2⟩; have hq2 : n2 ≤ 4 := (by rw [hn2]; exact HSL); clear hn2; have HO2 := Lib.hid ho2; have HP := Lib.hid (own_step HO1'.out hb2); have hz2 := hb2.size; have k2 : Bk w2 w.heap.size 24 #[.bool false, .slice none 0 0] := k1.below hb2 (by omega); have B2 : Below w.heap.size w w2 := B1.trans (hb2.mono (by omega)); clear ho2)
     | (at_builtin; go_loud (refine wpList_append_own_row rfl _ _ _ rfl (w.heap.size + 1) 3 i0 _ 1 8 Tryz.underlying79 HI0.out HZ0.out HZ1.out HZ2.out rfl (by omega) _ _ _ rfl HP.out w1'.heap.size 3 _ _ _ _ rfl HO2.out (i64s_one _) (by unfold maxLen; omega) (by omega) (by omega) ?_; intro v1 w3 hown3 hg3; obtain ⟨A3, c3, rfl, -, -⟩ := Sl.of_own hown3; have HO3 := Lib.hid hown3; have hz3 := hg3.size; have k3 : Bk w3 w.heap.size 24 #[.bool false, .slice none 0 0] := (hg3.block _ (by omega) (fun e => by have := (HP.out.lt _ e.symm).1; omega)).trans k2; have B3 : Below w.heap.size w w3 := B2.grown hg3 (by omega) (fun q hq => by have := (HP.out.lt _ hq).1; omega); clear hown3 hg3))
     | (go_at_call 99; go_loud (with_reducible refine (packed_any A3 _ c3 (carr 0 (l.map fun x => -x) ++ spr 4 m) _ ?_ ?_ (settled_in (l.map fun x => -x) 0 4 m)).mono ?_; (focus (have h := HO3.out; rw [i64s_append] at h; exact Nums.own h)); (focus (omega)); rintro e w4 ⟨hb4, A4, n4, c4, ls, rfl, hl4, hnl, hv4⟩; have hz4 := hb4.size; have k4 : Bk w4 w.heap.size 24 #[.bool false, .slice none 0 0] := k3.below hb4 (by omega); have B4 : Below w.heap.size w w4 := B3.trans (hb4.mono (by omega)); have og4 := k4.lt; obtain ⟨r0, r1⟩ : w4.cell? ⟨w.heap.size, 0, none⟩ = some (.bool false) ∧ w4.cell? ⟨w.heap.size, 1, none⟩ = some (.slice none 0 0) := ⟨by simpa using k4.cell 0, by simpa using k4.cell 1⟩; have fr0 := k4.frozen 0; have fr1 := k4.frozen 1; have HL4 := Lib.hid hl4; have hcap4 := hl4.cap; have hmax4 := hl4.max; have HN4 := Lib.hid hnl; have HV4 := Lib.hid hv4; have HB4 := Lib.hid B4; have HK4 := Lib.hid k4; clear hl4 hnl hv4 B1 B2 B3 B4 k1 k2 k3 k4)))
    have kz : Bk (((w4.setCell ⟨w.heap.size, 0, none⟩ (.bool (decide (0 < n4)))).setCell ⟨w.heap.size, 1, none⟩ (.slice A4 n4 c4)).alloc (.cells #[.bool (decide (0 < n4)), .slice A4 n4 c4] 24)) w.heap.size 24 #[.bool (decide (0 < n4)), .slice A4 n4 c4] := by
     have h := ((HK4.out.set_ 0 (.bool (decide (0 < n4)))).set_ 1 (.slice A4 n4 c4)).alloc (.cells #[.bool (decide (0 < n4)), .slice A4 n4 c4] 24)
     simpa using h
    have hbz : Below w.heap.size w (((w4.setCell ⟨w.heap.size, 0, none⟩ (.bool (decide (0 < n4)))).setCell ⟨w.heap.size, 1, none⟩ (.slice A4 n4 c4)).alloc (.cells #[.bool (decide (0 < n4)), .slice A4 n4 c4] 24)) := ((HB4.out.setCell (by simp) _).setCell (by simp) _).alloc (by simp [World.setCell]; omega) _
    have h := mkInt (t := true) (z := valc l) (((HL4.out.past HK4.out (.bool (decide (0 < n4))) (.slice A4 n4 c4)).mono (by simp [World.setCell])).alloc (.cells #[.bool (decide (0 < n4)), .slice A4 n4 c4] 24) (Nat.le_refl _) (B' := w4.heap.size + 1) (by simp [World.setCell])) HN4.out (by
     have h1 := HV.out
     rw [valc_neg] at h1
     rw [sg_true, HV4.out, h1]
     omega)
    rw [Bool.true_and] at h
    have hsz : w4.heap.size + 1 ≤ (((w4.setCell ⟨w.heap.size, 0, none⟩ (.bool (decide (0 < n4)))).setCell ⟨w.heap.size, 1, none⟩ (.slice A4 n4 c4)).alloc (.cells #[.bool (decide (0 < n4)), .slice A4 n4 c4] 24)).heap.size := by simp [World.setCell]
    generalize (((w4.setCell ⟨w.heap.size, 0, none⟩ (.bool (decide (0 < n4)))).setCell ⟨w.heap.size, 1, none⟩ (.slice A4 n4 c4)).alloc (.cells #[.bool (decide (0 < n4)), .slice A4 n4 c4] 24)) = W at kz hbz h hsz ⊢
    obtain ⟨y0, y1⟩ : W.cell? ⟨w.heap.size, 0, none⟩ = some (.bool (decide (0 < n4))) ∧ W.cell? ⟨w.heap.size, 1, none⟩ = some (.slice A4 n4 c4) := ⟨by simpa using kz.cell 0, by simpa using kz.cell 1⟩
    refine bodyPost_ret (v := .agg #[.bool (decide (0 < n4)), .slice A4 n4 c4]) (by simp [results, Tryz.results59, go_sem, y0, y1]) rfl ?_
    exact ⟨hbz, _, rfl, h.mono hsz⟩
theorem settled_any (A : Option Addr) (n c : Nat) (l : List Int) (w : World) (hl : Nums w w.heap.size A n c l) (hn : n ≤ 5000) (hb : ∀ y ∈ l, -1152921504606846976 ≤ y ∧ y ≤ 1152921504606846976) :
 Calls Tryz.prog 59 #[.slice A n c] w (IntR (valc l) w) := by
 have h1 := carrK_bd (B := 1152921504606846976) (by omega) l 0 hb (by omega) (by omega)
 have h2 := carrK_bd (B := 1152921504606846976) (by omega) (l.map fun x => -x) 0 (fun y hy => by
  obtain ⟨x, hx, rfl⟩ := List.mem_map.1 hy
  have := hb x hx
  omega) (by omega) (by omega)
 rcases Int.lt_or_le (carrK 0 l) 0 with h | h
 · obtain ⟨m, hm⟩ := Int.eq_ofNat_of_zero_le (carr_neg h)
   exact settled_neg_any A n c m _ l w hl hn hb rfl h hm (by omega)
 · obtain ⟨m, hm⟩ := Int.eq_ofNat_of_zero_le h
   exact settled_pos_any A n c m l w hl hn hb hm (by omega)
end Go.Proofs.YthlfhfkfjefidaaGreat
/- The reference's Int, Of, Minus and Size. -/
namespace Go.Proofs.YthlfhfkfjefidaaGreat
open Go.RowKit
theorem IntAt.pastI {w : World} {v : Value} {z : Int} (h : IntAt w w.heap.size v z) {g t : Nat} {x : Bool} {y1 : Option Addr} {y2 y3 : Nat} (hb : Bk w g t #[.bool x, .slice y1 y2 y3]) (u u' : Value) :
 IntAt ((w.setCell ⟨g, 0, none⟩ u).setCell ⟨g, 1, none⟩ u') ((w.setCell ⟨g, 0, none⟩ u).setCell ⟨g, 1, none⟩ u').heap.size v z := by
 obtain ⟨s, A, n, c, l, rfl, hl, hn, hz, hs⟩ := h
 exact ⟨s, A, n, c, l, rfl, (hl.past hb u u').mono (by simp [World.setCell]), hn, hz, hs⟩
theorem columns_any (s : Bool) (A : Option Addr) (n c : Nat) (l : List Nat) (w : World) (hl : Lim w w.heap.size A n c l) (hn : n ≤ 1000) :
 Calls Tryz.prog 55 #[.agg #[.bool s, .slice A n c]] w fun e w' => Below w.heap.size w w' ∧ ∃ A' c', e = .returned (.slice A' (2 * n) c') ∧ Nums w' w'.heap.size A' (2 * n) c' (cols s l) := by
 cases s
 · exact columns_false A n c l w hl hn
 · exact columns_true A n c l w hl hn
theorem cols_wide (s : Bool) {l : List Nat} (hb : Bd l) : ∀ y ∈ cols s l, -1152921504606846976 ≤ y ∧ y ≤ 1152921504606846976 := fun y hy => by
 have := cols_bd s l hb y hy
 omega
theorem below_to {D E : Nat} {w w1 w2 : World} (h : Below D w w1) (h2 : Below E w1 w2) (hD : D ≤ E) : Below D w w2 := h.trans (h2.mono hD)
abbrev MadeI (z : Int) (w : World) (e : Ending) (w' : World) : Prop := Below w.heap.size w w' ∧ ∃ s A n c, e = .returned (.agg #[.bool s, .slice A n c]) ∧ IntAt w' w'.heap.size (.agg #[.bool s, .slice A n c]) z
theorem made_of {z : Int} {w w' : World} {e : Ending} (h : IntR z w e w') : MadeI z w e w' := by
 obtain ⟨hb, v, rfl, s, A, n, c, l, rfl, h⟩ := h
 exact ⟨hb, s, A, n, c, rfl, s, A, n, c, l, rfl, h⟩
theorem settledM (A : Option Addr) (n c : Nat) (l : List Int) (w : World) (hl : Nums w w.heap.size A n c l) (hn : n ≤ 5000) (hb : ∀ y ∈ l, -1152921504606846976 ≤ y ∧ y ≤ 1152921504606846976) :
 Calls Tryz.prog 59 #[.slice A n c] w (MadeI (valc l) w) := (settled_any A n c l w hl hn hb).mono fun _ _ h => made_of h
set_option maxRecDepth 100000 in
set_option maxHeartbeats 4000000 in
theorem int_any (s : Bool) (A : Option Addr) (n c : Nat) (l : List Nat) (w : World) (hl : Lim w w.heap.size A n c l) (hn : n ≤ 1000) :
 Calls Tryz.prog 56 #[.agg #[.bool s, .slice A n c]] w (IntR (sg s (val l)) w) := by
 have H : Hid (∀ w', Below w.heap.size w w' → Lim w' w'.heap.size A n c l) := fun w' hb => hl.below hb (Nat.le_refl _) hb.size
 have HBD := Lib.hid hl.bd
 rw [← valc_cols]
 clear hl
 go_enter Tryz.func56, Tryz.ntmps56
 go_wp2_with (first
  | (go_at_call 55; go_loud (with_reducible refine (columns_any s A n c l _ (H.out _ ?_) hn).mono ?_; (focus (exact (by repeat (first | exact Below.refl _ _ | assumption | refine Below.drew ?_ | refine Below.drewN ?_ _ | refine Below.alloc ?_ (by simp <;> omega) _ | refine Below.setCell ?_ (by simp <;> omega) _)))); rintro e w1 ⟨hb1, A1, c1, rfl, hn1⟩; have hz1 := hb1.size; (try simp at hz1); have kg : Bk w1 (w.heap.size + 1) 24 #[.bool false, .slice none 0 0] := (alloc2_bk w _ _ _).below hb1 (by simp); have hbw : Below w.heap.size w w1 := below_to (alloc2_below w _ _) hb1 (by simp; omega)))
  | (go_at_call 59; go_loud (with_reducible refine (settledM _ _ _ _ _ hn1 (by omega) (cols_wide s HBD.out)).mono ?_; rintro e wz ⟨hbz, sz, Az, nz, cz, rfl, hlz⟩; have hz := hbz.size; have kz : Bk wz (w.heap.size + 1) 24 #[.bool false, .slice none 0 0] := kg.below hbz (by omega); have og := kz.lt; obtain ⟨c0, c1⟩ : wz.cell? ⟨w.heap.size + 1, 0, none⟩ = some (.bool false) ∧ wz.cell? ⟨w.heap.size + 1, 1, none⟩ = some (.slice none 0 0) := ⟨by simpa using kz.cell 0, by simpa using kz.cell 1⟩; have fr0 := kz.frozen 0; have fr1 := kz.frozen 1; have HKZ := Lib.hid kz; have HBZ : Hid (Below w.heap.size w wz) := Lib.hid (below_to hbw hbz (by omega)); have HVZ : Hid (IntAt wz wz.heap.size (.agg #[.bool sz, .slice Az nz cz]) (valc (cols s l))) := Lib.hid hlz; clear hlz kz kg hbw)))
 refine bodyPost_ret (v := .agg #[.bool sz, .slice Az nz cz]) (by simp [results, Tryz.results56, go_sem, c0, c1]) rfl ?_
 exact ⟨(HBZ.out.setCell (by first | (simp; done) | (simp; omega) | omega) _).setCell (by first | (simp; done) | (simp; omega) | omega) _, _, rfl, HVZ.out.pastI HKZ.out _ _⟩
theorem ofs_val (n : Int) : valc [n.tmod 65536, (n.tdiv 65536).tmod 65536, (n.tdiv 65536).tdiv 65536] = n := by
 have h1 := tmod_bd n
 have h2 := tmod_bd (n.tdiv 65536)
 simp only [valc]
 omega
set_option maxRecDepth 100000 in
set_option maxHeartbeats 4000000 in
theorem refOf_any (n : Int) (w : World) (h1 : -9223372036854775808 ≤ n) (h2 : n ≤ 9223372036854775807) :
 Calls Tryz.prog 13 #[.int .i64 n] w (IntR n w) := by
 have HV := Lib.hid (ofs_val n)
 obtain ⟨t1, t2, t3⟩ := tmod_bd n
 obtain ⟨t4, t5, t6⟩ := tmod_bd (n.tdiv 65536)
 have t7 : -4294967296 ≤ (n.tdiv 65536).tdiv 65536 ∧ (n.tdiv 65536).tdiv 65536 ≤ 4294967296 := by omega
 obtain ⟨t8, t9⟩ := t7
 go_enter Tryz.func13, Tryz.ntmps13
 go_wp2_with (first
  | (go_at_call 59; go_loud (have kg := (Bk.alloc_ w 24 #[.bool false, .slice none 0 0]).alloc (.cells (i64s [n.tmod 65536, (n.tdiv 65536).tmod 65536, (n.tdiv 65536).tdiv 65536]).toArray 3); have hbw := alloc2_below w (.cells #[.bool false, .slice none 0 0] 24) (.cells (i64s [n.tmod 65536, (n.tdiv 65536).tmod 65536, (n.tdiv 65536).tdiv 65536]).toArray 3); refine (settledM (some ⟨w.heap.size + 1, 0, none⟩) 3 3 [n.tmod 65536, (n.tdiv 65536).tmod 65536, (n.tdiv 65536).tdiv 65536] ((w.alloc (.cells #[.bool false, .slice none 0 0] 24)).alloc (.cells (i64s [n.tmod 65536, (n.tdiv 65536).tmod 65536, (n.tdiv 65536).tdiv 65536]).toArray 3)) ((Nums.new (w.alloc (.cells #[.bool false, .slice none 0 0] 24)) 3 [n.tmod 65536, (n.tdiv 65536).tmod 65536, (n.tdiv 65536).tdiv 65536] 3 rfl (by omega) _ (by simp)).mono (by simp)) (by omega) ?_).mono ?_; (focus (intro y hy; simp only [List.mem_cons, List.not_mem_nil, or_false] at hy; omega)); rintro e wz ⟨hbz, sz, Az, nz, cz, rfl, hlz⟩; have hz := hbz.size; (try simp at hz); have kz : Bk wz w.heap.size 24 #[.bool false, .slice none 0 0] := kg.below hbz (by simp; omega); have og := kz.lt; obtain ⟨c0, c1⟩ : wz.cell? ⟨w.heap.size, 0, none⟩ = some (.bool false) ∧ wz.cell? ⟨w.heap.size, 1, none⟩ = some (.slice none 0 0) := ⟨by simpa using kz.cell 0, by simpa using kz.cell 1⟩; have fr0 := kz.frozen 0; have fr1 := kz.frozen 1; have HKZ := Lib.hid kz; have HBZ : Hid (Below w.heap.size w wz) := Lib.hid (below_to hbw hbz (by simp; omega)); have HVZ : Hid (IntAt wz wz.heap.size (.agg #[.bool sz, .slice Az nz cz]) (valc [n.tmod 65536, (n.tdiv 65536).tmod 65536, (n.tdiv 65536).tdiv 65536])) := Lib.hid hlz; clear hlz kz kg hbw))
  )
 rw [HV.out] at HVZ
 refine bodyPost_ret (v := .agg #[.bool sz, .slice Az nz cz]) (by simp [results, Tryz.results13, go_sem, c0, c1]) rfl ?_
 exact ⟨(HBZ.out.setCell (by first | (simp; done) | (simp; omega) | omega) _).setCell (by first | (simp; done) | (simp; omega) | omega) _, _, rfl, HVZ.out.pastI HKZ.out _ _⟩
theorem intM (s : Bool) (A : Option Addr) (n c : Nat) (l : List Nat) (w : World) (hl : Lim w w.heap.size A n c l) (hn : n ≤ 1000) :
 Calls Tryz.prog 56 #[.agg #[.bool s, .slice A n c]] w (MadeI (sg s (val l)) w) := (int_any s A n c l w hl hn).mono fun _ _ h => made_of h
set_option maxRecDepth 100000 in
set_option maxHeartbeats 4000000 in
theorem minus_any (s : Bool) (A : Option Addr) (n c : Nat) (l : List Nat) (w : World) (hl : Lim w w.heap.size A n c l) (hn : n ≤ 1000) :
 Calls Tryz.prog 65 #[.agg #[.bool s, .slice A n c]] w (IntR (sg (!s) (val l)) w) := by
 have H : Hid (∀ w', Below w.heap.size w w' → Lim w' w'.heap.size A n c l) := fun w' hb => hl.below hb (Nat.le_refl _) hb.size
 clear hl
 go_enter Tryz.func65, Tryz.ntmps65
 go_wp2_with (go_at_call 56; go_loud (with_reducible refine (intM (!s) A n c l _ (H.out _ ?_) hn).mono ?_; (focus (exact bl)); rintro e wz ⟨hbz, sz, Az, nz, cz, rfl, hlz⟩; have hz := hbz.size; (try simp at hz); have kz : Bk wz (w.heap.size + 1) 24 #[.bool false, .slice none 0 0] := bk; have hbw : Below w.heap.size w wz := bl; have og := kz.lt; obtain ⟨c0, c1⟩ : wz.cell? ⟨w.heap.size + 1, 0, none⟩ = some (.bool false) ∧ wz.cell? ⟨w.heap.size + 1, 1, none⟩ = some (.slice none 0 0) := ⟨by simpa using kz.cell 0, by simpa using kz.cell 1⟩; have fr0 := kz.frozen 0; have fr1 := kz.frozen 1; have HKZ := Lib.hid kz; have HBZ := Lib.hid hbw; have HVZ := Lib.hid hlz; clear hlz kz hbw))
 refine bodyPost_ret (v := .agg #[.bool sz, .slice Az nz cz]) (by simp [results, Tryz.results65, go_sem, c0, c1]) rfl ?_
 exact ⟨(HBZ.out.setCell (by first | (simp; done) | (simp; omega) | omega) _).setCell (by first | (simp; done) | (simp; omega) | omega) _, _, rfl, HVZ.out.pastI HKZ.out _ _⟩
set_option maxRecDepth 100000 in
set_option maxHeartbeats 4000000 in
theorem size_any (s : Bool) (A : Option Addr) (n c : Nat) (l : List Nat) (w : World) (hl : Lim w w.heap.size A n c l) (hn : n ≤ 1000) :
 Calls Tryz.prog 70 #[.agg #[.bool s, .slice A n c]] w (IntR (sg (false) (val l)) w) := by
 have H : Hid (∀ w', Below w.heap.size w w' → Lim w' w'.heap.size A n c l) := fun w' hb => hl.below hb (Nat.le_refl _) hb.size
 clear hl
 go_enter Tryz.func70, Tryz.ntmps70
 go_wp2_with (go_at_call 56; go_loud (with_reducible refine (intM (false) A n c l _ (H.out _ ?_) hn).mono ?_; (focus (exact bl)); rintro e wz ⟨hbz, sz, Az, nz, cz, rfl, hlz⟩; have hz := hbz.size; (try simp at hz); have kz : Bk wz (w.heap.size + 1) 24 #[.bool false, .slice none 0 0] := bk; have hbw : Below w.heap.size w wz := bl; have og := kz.lt; obtain ⟨c0, c1⟩ : wz.cell? ⟨w.heap.size + 1, 0, none⟩ = some (.bool false) ∧ wz.cell? ⟨w.heap.size + 1, 1, none⟩ = some (.slice none 0 0) := ⟨by simpa using kz.cell 0, by simpa using kz.cell 1⟩; have fr0 := kz.frozen 0; have fr1 := kz.frozen 1; have HKZ := Lib.hid kz; have HBZ := Lib.hid hbw; have HVZ := Lib.hid hlz; clear hlz kz hbw))
 refine bodyPost_ret (v := .agg #[.bool sz, .slice Az nz cz]) (by simp [results, Tryz.results70, go_sem, c0, c1]) rfl ?_
 exact ⟨(HBZ.out.setCell (by first | (simp; done) | (simp; omega) | omega) _).setCell (by first | (simp; done) | (simp; omega) | omega) _, _, rfl, HVZ.out.pastI HKZ.out _ _⟩
end Go.Proofs.YthlfhfkfjefidaaGreat
/- The reference's Sum, Diff and CmpInt. -/
namespace Go.Proofs.YthlfhfkfjefidaaGreat
open Go.RowKit
structure LimA (w0 : World) (A : Option Addr) (n c : Nat) (l : List Nat) : Prop where
 all : ∀ w', Below w0.heap.size w0 w' → Lim w' w'.heap.size A n c l
structure NumsH (w0 : World) (A : Option Addr) (n c : Nat) (l : List Int) : Prop where
 all : ∀ w', Below w0.heap.size w0 w' → Nums w' w'.heap.size A n c l
theorem NumsH.of {w : World} {A : Option Addr} {n c : Nat} {l : List Int} (h : Nums w w.heap.size A n c l) : NumsH w A n c l := ⟨fun _ hb => h.below hb (Nat.le_refl _) hb.size⟩
theorem NumsH.later {w0 w : World} {A : Option Addr} {n c : Nat} {l : List Int} (h : NumsH w0 A n c l) (hb : Below w0.heap.size w0 w) : NumsH w A n c l := ⟨fun w' hb' => h.all w' (below_to hb hb' hb.size)⟩
theorem columnsH {w0 w : World} {s : Bool} {A : Option Addr} {n c : Nat} {l : List Nat} (h : LimA w0 A n c l) (hb : Below w0.heap.size w0 w) (hn : n ≤ 1000) :
 Calls Tryz.prog 55 #[.agg #[.bool s, .slice A n c]] w fun e w' => Below w.heap.size w w' ∧ ∃ A' c', e = .returned (.slice A' (2 * n) c') ∧ NumsH w' A' (2 * n) c' (cols s l) :=
 (columns_any s A n c l w (h.all w hb) hn).mono fun _ _ ⟨h1, A', c', h2, h3⟩ => ⟨h1, A', c', h2, .of h3⟩
theorem atH {w0 w : World} {A : Option Addr} {n c i : Nat} {l : List Int} (h : NumsH w0 A n c l) (hb : Below w0.heap.size w0 w) {x : Int} (hx : Hid (l.getD i 0 = x)) :
 Calls Tryz.prog 63 #[.slice A n c, .int .i64 (i : Int)] w fun e w' => w = w' ∧ e = .returned (.int .i64 x) := by rw [← hx.out]; exact at_any A n c i _ l w (h.all w hb)
theorem sum_step (a b : List Int) (k : Nat) : ((List.range (k + 1)).map fun i => a.getD i 0 + b.getD i 0) = ((List.range k).map fun i => a.getD i 0 + b.getD i 0) ++ [a.getD k 0 + b.getD k 0] := by rw [List.range_succ, List.map_append]; rfl
theorem cols_small (s : Bool) {l : List Nat} (hb : Bd l) : ∀ y ∈ cols s l, -65535 ≤ y ∧ y ≤ 65535 := fun y hy => by
 have := cols_bd s l hb y hy
 omega
theorem sums_wide {a b : List Int} (ha : ∀ y ∈ a, -65535 ≤ y ∧ y ≤ 65535) (hb : ∀ y ∈ b, -65535 ≤ y ∧ y ≤ 65535) (m : Nat) : ∀ y ∈ (List.range m).map (fun i => a.getD i 0 + b.getD i 0), -1152921504606846976 ≤ y ∧ y ≤ 1152921504606846976 := fun y hy => by
 obtain ⟨i, -, rfl⟩ := List.mem_map.1 hy
 have h1 := getD_bd (by omega) ha i
 have h2 := getD_bd (by omega) hb i
 omega
set_option maxRecDepth 100000 in
set_option maxHeartbeats 8000000 in
theorem refSum_any (s1 s2 : Bool) (A1 A2 : Option Addr) (n1 c1 n2 c2 : Nat) (l1 l2 : List Nat) (w : World) (h1 : LimA w A1 n1 c1 l1) (h2 : LimA w A2 n2 c2 l2) (b1 : n1 ≤ 1000) (b2 : n2 ≤ 1000) :
 Calls Tryz.prog 15 #[.agg #[.bool s1, .slice A1 n1 c1], .agg #[.bool s2, .slice A2 n2 c2]] w (IntR (sg s1 (val l1) + sg s2 (val l2)) w) := by
 have B1 := Lib.hid (cols_small s1 (h1.all w (Below.refl _ _)).bd)
 have B2 := Lib.hid (cols_small s2 (h2.all w (Below.refl _ _)).bd)
 have L1 := Lib.hid (show (cols s1 l1).length = 2 * n1 by rw [cols_length, (h1.all w (Below.refl _ _)).len])
 have L2 := Lib.hid (show (cols s2 l2).length = 2 * n2 by rw [cols_length, (h2.all w (Below.refl _ _)).len])
 rw [← valc_cols, ← valc_cols]
 go_enter Tryz.func15, Tryz.ntmps15
 go_wp2
 obtain ⟨W, hW⟩ : ∃ W, W = (((w.alloc (.cells #[.bool s1, .slice A1 n1 c1] 24)).alloc (.cells #[.bool s2, .slice A2 n2 c2] 24)).alloc (.cells #[.bool false, .slice none 0 0] 24)) := ⟨_, rfl⟩
 have hbW : Below w.heap.size w W := by rw [hW]; exact bl
 have kx : Bk W w.heap.size 24 #[.bool s1, .slice A1 n1 c1] := by rw [hW]; exact bk
 have ky : Bk W (w.heap.size + 1) 24 #[.bool s2, .slice A2 n2 c2] := by rw [hW]; exact bk
 have kz : Bk W (w.heap.size + 2) 24 #[.bool false, .slice none 0 0] := by rw [hW]; exact bk
 rw [← hW]
 have ozW : w.heap.size + 3 ≤ W.heap.size := by rw [hW]; simp
 clear hW
 obtain ⟨a0, a1⟩ := kx.duo
 obtain ⟨a2, a3⟩ := ky.duo
 have ox := kx.lt
 have oy := ky.lt
 have oz := kz.lt
 go_region_held3 (fun w' => (w'.cell? ⟨w.heap.size, 0, none⟩ = some (.bool s1) ∧ w'.cell? ⟨w.heap.size, 1, none⟩ = some (.slice A1 n1 c1)) ∧ w'.cell? ⟨w.heap.size + 1, 0, none⟩ = some (.bool s2) ∧ w'.cell? ⟨w.heap.size + 1, 1, none⟩ = some (.slice A2 n2 c2)) (go_keep) (first
  | (go_at_call 55; go_loud (with_reducible refine (columnsH (by assumption) ?_ (by omega)).mono ?_; (focus (exact bl)); rintro e wn ⟨hbwn, An, cn, rfl, hn⟩; have qx : Bk wn w.heap.size 24 #[.bool s1, .slice A1 n1 c1] := bk; have qy : Bk wn (w.heap.size + 1) 24 #[.bool s2, .slice A2 n2 c2] := bk; have qz : Bk wn (w.heap.size + 2) 24 #[.bool false, .slice none 0 0] := bk; clear kx ky kz a0 a1 a2 a3; have kx := qx; have ky := qy; have kz := qz; clear qx qy qz; have ox := kx.lt; have oy := ky.lt; have oz := kz.lt; obtain ⟨a0, a1⟩ := kx.duo; obtain ⟨a2, a3⟩ := ky.duo; have ozwn := hbwn.size; (try simp at ozwn))))
 have hN1 := NumsH.later (w := wn) (n := 2 * n1) (l := cols s1 l1) (by assumption) bl
 have hN2 := NumsH.later (w := wn) (n := 2 * n2) (l := cols s2 l2) (by assumption) bl
 have HBW : Hid (Below w.heap.size w wn) := Lib.hid bl
 have HKZ := Lib.hid kz
 obtain ⟨i0, hi0, hz0, hz1, hz2⟩ := info_parts info_int1
 have HI0 := Lib.hid hi0
 have HZ0 := Lib.hid hz0
 have HZ1 := Lib.hid hz1
 have HZ2 := Lib.hid hz2
 have q1 := (hN1.all wn (Below.refl _ _)).cap
 have q2 := (hN2.all wn (Below.refl _ _)).cap
 have q3 := (hN1.all wn (Below.refl _ _)).max
 have q4 := (hN2.all wn (Below.refl _ _)).max
 clear hi0 hz0 hz1 hz2 kx ky kz a0 a1 a2 a3
 go_wp2
 go_loopw [7, 8] (fun v x wr => ∃ k : Nat, k ≤ max (2 * n1) (2 * n2) ∧ x = .int .i64 k ∧ wr.ownsRow wn.heap.size 3 1 v k (i64s ((List.range k).map fun i => (cols s1 l1).getD i 0 + (cols s2 l2).getD i 0)) ∧ Below wn.heap.size wn wr) (fun _ x _ => 2 * n1 + 2 * n2 - (intOf x).toNat)
 case atStart => exact ⟨0, Nat.zero_le _, rfl, World.ownsRow_nil _ _ _ _, Below.refl _ _⟩
 case round =>
  obtain ⟨k, hk, rfl, hown, hb⟩ := hrel
  have HBR := Lib.hid hb
  have HOWN := Lib.hid hown
  have ow := hb.size
  clear hown
  by_cases hlt : k < max (2 * n1) (2 * n2)
  · have d1 := getD_bd (by omega) B1.out k
    have d2 := getD_bd (by omega) B2.out k
    have HS := Lib.hid (sum_step (cols s1 l1) (cols s2 l2) k)
    obtain ⟨x1, hx1⟩ : ∃ x, (cols s1 l1).getD k 0 = x := ⟨_, rfl⟩
    obtain ⟨x2, hx2⟩ : ∃ x, (cols s2 l2).getD k 0 = x := ⟨_, rfl⟩
    rw [hx1] at d1 HS
    rw [hx2] at d2 HS
    have HX1 := Lib.hid hx1
    have HX2 := Lib.hid hx2
    clear hx1 hx2 hb
    go_wp2_with (first
     | (go_at_call 63; go_loud (with_reducible refine (atH (by assumption) ?_ (by assumption)).mono ?_; (focus (exact HBR.out)); rintro e wa ⟨rfl, rfl⟩))
     | (at_builtin; go_loud (refine wpList_append_own_at _ rfl _ _ _ rfl wn.heap.size 3 i0 _ 1 8 Tryz.underlying79 HI0.out HZ0.out HZ1.out HZ2.out rfl (by omega) _ _ _ rfl (HOWN.out.alloc _) ⟨wr.heap.size, 0, none⟩ 1 1 [.int .i64 (x1 + x2)] rfl rfl (World.news_of_block (cs := #[.int .i64 (x1 + x2)]) (t := 3) (fr := (0, 0)) (heap_alloc_new wr _)) (by intro u hu; simp at hu; subst hu; rfl) (by unfold maxLen; omega) (by omega) (by simp; omega) ?_; intro v1 w1 hown1 hg1 _ _; have HO1 := Lib.hid hown1; have HG1 := Lib.hid hg1; clear hown1 hg1)))
    go_roundw
    case rel =>
     have hb0 := HBR.out
     refine ⟨k + 1, by omega, by go_num, ?_, (Below.alloc hb0 hb0.size _).grown HG1.out (by simp; omega) (fun q hq => by have := (HOWN.out.lt _ hq).1; omega)⟩
     have := HO1.out
     rw [HS.out]
     simpa [i64s] using this
    case measure => (simp [intOf]; omega)
  · have hV := valc_sum (a := cols s1 l1) (b := cols s2 l2) (m := k) (by rw [L1.out]; omega) (by rw [L2.out]; omega)
    have HV := Lib.hid hV
    have HW := Lib.hid (sums_wide B1.out B2.out k)
    clear hV
    generalize ((List.range k).map fun i => (cols s1 l1).getD i 0 + (cols s2 l2).getD i 0) = ls at HOWN HW HV ⊢
    obtain ⟨A', c', rfl, -⟩ := Nums.of_own HOWN.out
    have HN := Lib.hid (Nums.own HOWN.out)
    have kg := HKZ.out.below hb oz
    have hbw := below_to HBW.out hb (by omega)
    clear hb
    go_wp2_with (go_at_call 59; go_loud (with_reducible refine (settledM _ _ _ _ _ HN.out (by omega) HW.out).mono ?_; rintro e wz ⟨hbz, sz, Az, nz, cz, rfl, hlz⟩; have hz := hbz.size; have kz : Bk wz (w.heap.size + 1 + 1) 24 #[.bool false, .slice none 0 0] := kg.below hbz (by omega); have og := kz.lt; obtain ⟨c0, c1⟩ : wz.cell? ⟨w.heap.size + 1 + 1, 0, none⟩ = some (.bool false) ∧ wz.cell? ⟨w.heap.size + 1 + 1, 1, none⟩ = some (.slice none 0 0) := ⟨by simpa using kz.cell 0, by simpa using kz.cell 1⟩; have fr0 := kz.frozen 0; have fr1 := kz.frozen 1; have HKZ := Lib.hid kz; have HBZ : Hid (Below w.heap.size w wz) := Lib.hid (below_to hbw hbz (by omega)); have HVZ : Hid (IntAt wz wz.heap.size (.agg #[.bool sz, .slice Az nz cz]) (valc ls)) := Lib.hid hlz; clear hlz kz kg hbw))
    rw [HV.out] at HVZ
    refine bodyPost_ret (v := .agg #[.bool sz, .slice Az nz cz]) (by simp [results, Tryz.results15, go_sem, c0, c1]) rfl ?_
    exact ⟨(HBZ.out.setCell (by first | (simp; done) | (simp; omega) | omega) _).setCell (by first | (simp; done) | (simp; omega) | omega) _, _, rfl, HVZ.out.pastI HKZ.out _ _⟩
section
variable {w0 w w1 w2 : World} {s s1 s2 : Bool} {A A1 A2 : Option Addr} {n c n1 c1 n2 c2 : Nat} {z x y : Int} {K K1 K2 : Nat} {nf f1 f2 : Bool}
theorem LimA.of {l : List Nat} (h : ∀ w', Below w1.heap.size w1 w' → Lim w' w'.heap.size A n c l) (hb : Below w1.heap.size w1 w) : LimA w A n c l := ⟨fun w' hb' => h w' (below_to hb hb' hb.size)⟩
theorem rsumH (h1 : IntH w1 s1 A1 n1 c1 x K1 f1) (h2 : IntH w2 s2 A2 n2 c2 y K2 f2) (b1 : Below w1.heap.size w1 w) (b2 : Below w2.heap.size w2 w) (k1 : K1 ≤ 1000) (k2 : K2 ≤ 1000) :
 Calls Tryz.prog 15 #[.agg #[.bool s1, .slice A1 n1 c1], .agg #[.bool s2, .slice A2 n2 c2]] w (MakesInt (x + y) (K1 + K2 + 1) w) := by
 have a1 := h1.abs
 have a2 := h2.abs
 have e1 := h1.len
 have e2 := h2.len
 obtain ⟨l1, g1, rfl, -⟩ := h1.lim
 obtain ⟨l2, g2, rfl, -⟩ := h2.lim
 refine (refSum_any s1 s2 A1 A2 n1 c1 n2 c2 l1 l2 w (.of g1 b1) (.of g2 b2) (by omega) (by omega)).mono fun e w' h => makes_of h ?_
 have := W_sum a1 a2
 omega
theorem rminusH (h : IntH w1 s A n c x K nf) (b : Below w1.heap.size w1 w) (k : K ≤ 1000) :
 Calls Tryz.prog 65 #[.agg #[.bool s, .slice A n c]] w (MakesInt (-x) K w) := by
 have a1 := h.abs
 have e1 := h.len
 obtain ⟨l1, g1, rfl, -⟩ := h.lim
 refine (minus_any s A n c l1 w (g1 w b) (by omega)).mono fun e w' h => makes_of ?_ (show (-(sg s (val l1))).natAbs < W K by omega)
 have e2 : sg (!s) (val l1) = -(sg s (val l1)) := by cases s <;> simp [sg]
 rwa [e2] at h
theorem rsizeH (h : IntH w1 s A n c x K nf) (b : Below w1.heap.size w1 w) (k : K ≤ 1000) :
 Calls Tryz.prog 70 #[.agg #[.bool s, .slice A n c]] w (MakesInt (x.natAbs : Int) K w) := by
 have a1 := h.abs
 have e1 := h.len
 obtain ⟨l1, g1, rfl, -⟩ := h.lim
 refine (size_any s A n c l1 w (g1 w b) (by omega)).mono fun e w' h => makes_of ?_ (show (((sg s (val l1)).natAbs : Nat) : Int).natAbs < W K by omega)
 rw [sg_abs]
 exact h
theorem rsignH (h : IntH w1 s A n c x K nf) (b : Below w1.heap.size w1 w) {C : Int} (hC : cmpI x 0 = C) :
 Calls Tryz.prog 69 #[.agg #[.bool s, .slice A n c]] w fun e w' => Below w.heap.size w w' ∧ e = .returned (.int .i64 C) := by
 obtain ⟨l1, g1, rfl, -⟩ := h.lim
 subst hC
 cases s
 · exact sign_false A n c l1 w (g1 w b)
 · exact sign_true A n c l1 w (g1 w b)
theorem W_two : W 2 = 18446744073709551616 := by decide
theorem rofH (n : Int) (w : World) (h1 : -9223372036854775808 ≤ n) (h2 : n ≤ 9223372036854775807) : Calls Tryz.prog 13 #[.int .i64 n] w (MakesInt n 2 w) :=
 (refOf_any n w h1 h2).mono fun _ _ h => makes_of h (by rw [W_two]; omega)
end
end Go.Proofs.YthlfhfkfjefidaaGreat
/- The reference's Diff and CmpInt. -/
namespace Go.Proofs.YthlfhfkfjefidaaGreat
open Go.RowKit
section
variable {w w1 w2 : World} {s1 s2 : Bool} {A1 A2 : Option Addr} {n1 c1 n2 c2 : Nat} {x y : Int} {K1 K2 : Nat} {f1 f2 : Bool}
set_option maxRecDepth 100000 in
set_option maxHeartbeats 8000000 in
theorem rdiffH (h1 : IntH w1 s1 A1 n1 c1 x K1 f1) (h2 : IntH w2 s2 A2 n2 c2 y K2 f2) (b1 : Below w1.heap.size w1 w) (b2 : Below w2.heap.size w2 w) (k1 : K1 ≤ 1000) (k2 : K2 ≤ 1000) :
 Calls Tryz.prog 17 #[.agg #[.bool s1, .slice A1 n1 c1], .agg #[.bool s2, .slice A2 n2 c2]] w (MakesInt (x - y) (K1 + K2 + 1) w) := by
 go_enter Tryz.func17, Tryz.ntmps17
 go_wp2
 obtain ⟨W, hW⟩ : ∃ W, W = (((w.alloc (.cells #[.bool s1, .slice A1 n1 c1] 24)).alloc (.cells #[.bool s2, .slice A2 n2 c2] 24)).alloc (.cells #[.bool false, .slice none 0 0] 24)) := ⟨_, rfl⟩
 have hbW : Below w.heap.size w W := by rw [hW]; exact bl
 have kx : Bk W w.heap.size 24 #[.bool s1, .slice A1 n1 c1] := by rw [hW]; exact bk
 have ky : Bk W (w.heap.size + 1) 24 #[.bool s2, .slice A2 n2 c2] := by rw [hW]; exact bk
 have kz : Bk W (w.heap.size + 1 + 1) 24 #[.bool false, .slice none 0 0] := by rw [hW]; exact bk
 rw [← hW]
 have ozW : w.heap.size + 3 ≤ W.heap.size := by rw [hW]; simp
 clear hW
 obtain ⟨a0, a1⟩ := kx.duo
 obtain ⟨a2, a3⟩ := ky.duo
 obtain ⟨a4, a5⟩ := kz.duo
 have fr0 := kz.frozen 0
 have fr1 := kz.frozen 1
 have ox := kx.lt
 have oy := ky.lt
 have oz := kz.lt
 have sc1 : ∀ (W : World) (o o' : Nat) (u : Value), (W.setCell ⟨w.heap.size + 1 + 1, o, none⟩ u).cell? ⟨w.heap.size, o', none⟩ = W.cell? ⟨w.heap.size, o', none⟩ := fun W o o' u => World.cell?_setCell_other _ _ _ _ (fun h => by have := congrArg Addr.block h; simp at this; omega)
 have sc2 : ∀ (W : World) (o o' : Nat) (u : Value), (W.setCell ⟨w.heap.size + 1 + 1, o, none⟩ u).cell? ⟨w.heap.size + 1, o', none⟩ = W.cell? ⟨w.heap.size + 1, o', none⟩ := fun W o o' u => World.cell?_setCell_other _ _ _ _ (fun h => by have := congrArg Addr.block h; simp at this)
 go_region_held3 (fun w' => (w'.cell? ⟨w.heap.size, 0, none⟩ = some (.bool s1) ∧ w'.cell? ⟨w.heap.size, 1, none⟩ = some (.slice A1 n1 c1)) ∧ w'.cell? ⟨w.heap.size + 1, 0, none⟩ = some (.bool s2) ∧ w'.cell? ⟨w.heap.size + 1, 1, none⟩ = some (.slice A2 n2 c2)) (go_keep) (first
  | (go_at_call 65; go_loud (with_reducible refine (rminusH (by assumption) ?_ (by omega)).mono ?_; (focus (exact bl)); rintro e wm ⟨hbwm, sm, Am, nm, cm, rfl, hm⟩; have qx : Bk wm w.heap.size 24 #[.bool s1, .slice A1 n1 c1] := bk; have qy : Bk wm (w.heap.size + 1) 24 #[.bool s2, .slice A2 n2 c2] := bk; have qz : Bk wm (w.heap.size + 1 + 1) 24 #[.bool false, .slice none 0 0] := bk; clear kx ky kz a0 a1 a2 a3 a4 a5 fr0 fr1; have kx := qx; have ky := qy; have kz := qz; clear qx qy qz; have ox := kx.lt; have oy := ky.lt; have oz := kz.lt; obtain ⟨a0, a1⟩ := kx.duo; obtain ⟨a2, a3⟩ := ky.duo; obtain ⟨a4, a5⟩ := kz.duo; have fr0 := kz.frozen 0; have fr1 := kz.frozen 1; have ozwm := hbwm.size; (try simp at ozwm)))
  | (go_at_call 15; go_loud (with_reducible refine (rsumH (by assumption) (by assumption) ?_ ?_ (by omega) (by omega)).mono ?_; (focus (exact bl)); (focus (exact bl)); rintro e wn ⟨hbwn, sn, An, nn, cn, rfl, hn⟩; have qx : Bk wn w.heap.size 24 #[.bool s1, .slice A1 n1 c1] := bk; have qy : Bk wn (w.heap.size + 1) 24 #[.bool s2, .slice A2 n2 c2] := bk; have qz : Bk wn (w.heap.size + 1 + 1) 24 #[.bool false, .slice none 0 0] := bk; clear kx ky kz a0 a1 a2 a3 a4 a5 fr0 fr1; have kx := qx; have ky := qy; have kz := qz; clear qx qy qz; have ox := kx.lt; have oy := ky.lt; have oz := kz.lt; obtain ⟨a0, a1⟩ := kx.duo; obtain ⟨a2, a3⟩ := ky.duo; obtain ⟨a4, a5⟩ := kz.duo; have fr0 := kz.frozen 0; have fr1 := kz.frozen 1; have ozwn := hbwn.size; (try simp at ozwn))))
 have hBW : Below w.heap.size w wn := bl
 go_wp2
 refine bodyPost_ret (v := .agg #[.bool sn, .slice An nn cn]) (by simp [results, Tryz.results17, go_sem, a4, a5]) rfl ?_
 have hz := hn.past kz (.bool sn) (.slice An nn cn)
 rw [← Int.sub_eq_add_neg] at hz
 exact ⟨(hBW.setCell (by first | (simp; done) | (simp; omega) | omega) _).setCell (by first | (simp; done) | (simp; omega) | omega) _, sn, An, nn, cn, rfl, hz⟩
theorem cmpI_sub (x y : Int) : cmpI (x - y) 0 = cmpI x y := by
 rcases Int.lt_trichotomy x y with h | h | h
 · rw [cmpI_lt h, cmpI_lt (by omega)]
 · rw [cmpI_eq h, cmpI_eq (by omega)]
 · rw [cmpI_gt h, cmpI_gt (by omega)]
set_option maxRecDepth 100000 in
set_option maxHeartbeats 8000000 in
theorem rcmpH (h1 : IntH w1 s1 A1 n1 c1 x K1 f1) (h2 : IntH w2 s2 A2 n2 c2 y K2 f2) (b1 : Below w1.heap.size w1 w) (b2 : Below w2.heap.size w2 w) (k1 : K1 ≤ 400) (k2 : K2 ≤ 400) {C : Int} (hC : cmpI x y = C) :
 Calls Tryz.prog 23 #[.agg #[.bool s1, .slice A1 n1 c1], .agg #[.bool s2, .slice A2 n2 c2]] w fun e w' => Below w.heap.size w w' ∧ e = .returned (.int .i64 C) := by
 rw [← cmpI_sub] at hC
 go_enter Tryz.func23, Tryz.ntmps23
 go_wp2_with (first
  | (go_at_call 17; go_loud (with_reducible refine (rdiffH h1 h2 ?_ ?_ (by omega) (by omega)).mono ?_; (focus (exact bl)); (focus (exact bl)); rintro e wn ⟨hbwn, sn, An, nn, cn, rfl, hn⟩))
  | (go_at_call 69; go_loud (with_reducible refine (rsignH hn ?_ hC).mono ?_; (focus (exact bl)); rintro e wo ⟨hbwo, rfl⟩)))
 go_ret
 exact ⟨bl, rfl⟩
end
end Go.Proofs.YthlfhfkfjefidaaGreat
/- The reference's Prod. -/
namespace Go.Proofs.YthlfhfkfjefidaaGreat
open Go.RowKit
theorem prod_step (a b : List Int) (k : Nat) : (List.range (k + 1)).map (cf a b) = (List.range k).map (cf a b) ++ [cf a b k] := by rw [List.range_succ, List.map_append]; rfl
theorem prods_wide {a b : List Int} (ha : ∀ y ∈ a, -65535 ≤ y ∧ y ≤ 65535) (hb : ∀ y ∈ b, -65535 ≤ y ∧ y ≤ 65535) (m : Nat) (hm : m ≤ 10000) : ∀ y ∈ (List.range m).map (cf a b), -1152921504606846976 ≤ y ∧ y ≤ 1152921504606846976 := fun y hy => by
 obtain ⟨i, hi, rfl⟩ := List.mem_map.1 hy
 have h1 := List.mem_range.1 hi
 have h2 := pc_bd ha hb i (i + 1)
 unfold cf
 omega
set_option maxRecDepth 100000 in
set_option maxHeartbeats 8000000 in
theorem refProd_any (s1 s2 : Bool) (A1 A2 : Option Addr) (n1 c1 n2 c2 : Nat) (l1 l2 : List Nat) (w : World) (h1 : LimA w A1 n1 c1 l1) (h2 : LimA w A2 n2 c2 l2) (b1 : n1 ≤ 1000) (b2 : n2 ≤ 1000) :
 Calls Tryz.prog 19 #[.agg #[.bool s1, .slice A1 n1 c1], .agg #[.bool s2, .slice A2 n2 c2]] w (IntR (sg s1 (val l1) * sg s2 (val l2)) w) := by
 have B1 := Lib.hid (cols_small s1 (h1.all w (Below.refl _ _)).bd)
 have B2 := Lib.hid (cols_small s2 (h2.all w (Below.refl _ _)).bd)
 have L1 := Lib.hid (show (cols s1 l1).length = 2 * n1 by rw [cols_length, (h1.all w (Below.refl _ _)).len])
 have L2 := Lib.hid (show (cols s2 l2).length = 2 * n2 by rw [cols_length, (h2.all w (Below.refl _ _)).len])
 rw [← valc_cols, ← valc_cols]
 go_enter Tryz.func19, Tryz.ntmps19
 go_wp2
 obtain ⟨W, hW⟩ : ∃ W, W = (((w.alloc (.cells #[.bool s1, .slice A1 n1 c1] 24)).alloc (.cells #[.bool s2, .slice A2 n2 c2] 24)).alloc (.cells #[.bool false, .slice none 0 0] 24)) := ⟨_, rfl⟩
 have hbW : Below w.heap.size w W := by rw [hW]; exact bl
 have kx : Bk W w.heap.size 24 #[.bool s1, .slice A1 n1 c1] := by rw [hW]; exact bk
 have ky : Bk W (w.heap.size + 1) 24 #[.bool s2, .slice A2 n2 c2] := by rw [hW]; exact bk
 have kz : Bk W (w.heap.size + 2) 24 #[.bool false, .slice none 0 0] := by rw [hW]; exact bk
 rw [← hW]
 have ozW : w.heap.size + 3 ≤ W.heap.size := by rw [hW]; simp
 clear hW
 obtain ⟨a0, a1⟩ := kx.duo
 obtain ⟨a2, a3⟩ := ky.duo
 have ox := kx.lt
 have oy := ky.lt
 have oz := kz.lt
 go_region_held3 (fun w' => (w'.cell? ⟨w.heap.size, 0, none⟩ = some (.bool s1) ∧ w'.cell? ⟨w.heap.size, 1, none⟩ = some (.slice A1 n1 c1)) ∧ w'.cell? ⟨w.heap.size + 1, 0, none⟩ = some (.bool s2) ∧ w'.cell? ⟨w.heap.size + 1, 1, none⟩ = some (.slice A2 n2 c2)) (go_keep) (first
  | (go_at_call 55; go_loud (with_reducible refine (columnsH (by assumption) ?_ (by omega)).mono ?_; (focus (exact bl)); rintro e wn ⟨hbwn, An, cn, rfl, hn⟩; have qx : Bk wn w.heap.size 24 #[.bool s1, .slice A1 n1 c1] := bk; have qy : Bk wn (w.heap.size + 1) 24 #[.bool s2, .slice A2 n2 c2] := bk; have qz : Bk wn (w.heap.size + 2) 24 #[.bool false, .slice none 0 0] := bk; clear kx ky kz a0 a1 a2 a3; have kx := qx; have ky := qy; have kz := qz; clear qx qy qz; have ox := kx.lt; have oy := ky.lt; have oz := kz.lt; obtain ⟨a0, a1⟩ := kx.duo; obtain ⟨a2, a3⟩ := ky.duo; have ozwn := hbwn.size; (try simp at ozwn))))
 have hN1 := NumsH.later (w := wn) (n := 2 * n1) (l := cols s1 l1) (by assumption) bl
 have hN2 := NumsH.later (w := wn) (n := 2 * n2) (l := cols s2 l2) (by assumption) bl
 have HBW : Hid (Below w.heap.size w wn) := Lib.hid bl
 have HKZ := Lib.hid kz
 obtain ⟨i0, hi0, hz0, hz1, hz2⟩ := info_parts info_int1
 have HI0 := Lib.hid hi0
 have HZ0 := Lib.hid hz0
 have HZ1 := Lib.hid hz1
 have HZ2 := Lib.hid hz2
 have q1 := (hN1.all wn (Below.refl _ _)).cap
 have q2 := (hN2.all wn (Below.refl _ _)).cap
 have q3 := (hN1.all wn (Below.refl _ _)).max
 have q4 := (hN2.all wn (Below.refl _ _)).max
 clear hi0 hz0 hz1 hz2 kx ky kz a0 a1 a2 a3
 go_wp2
 go_loopw [7, 8, 9, 10] (fun v x _ _ wr => ∃ i : Nat, i ≤ 2 * n1 + 2 * n2 - 1 ∧ x = .int .i64 i ∧ wr.ownsRow wn.heap.size 3 1 v i (i64s ((List.range i).map (cf (cols s1 l1) (cols s2 l2)))) ∧ Below wn.heap.size wn wr) (fun _ x _ _ _ => 2 * n1 + 2 * n2 - (intOf x).toNat)
 case atStart => exact ⟨0, by omega, rfl, World.ownsRow_nil _ _ _ _, Below.refl _ _⟩
 case round =>
  obtain ⟨i, hi, rfl, hown, hb⟩ := hrel
  have HBR := Lib.hid hb
  have HOWN := Lib.hid hown
  have ow := hb.size
  obtain ⟨wo, rfl⟩ : ∃ x, x = wr := ⟨_, rfl⟩
  clear hown
  by_cases hlt : i + 1 < 2 * n1 + 2 * n2
  · obtain ⟨A', c', rfl, -⟩ := Nums.of_own HOWN.out
    have HP0 : Hid (pc (cols s1 l1) (cols s2 l2) i (i + 1 - 2 * n2) = 0) := Lib.hid (by
     rcases Nat.lt_or_ge (i + 1) (2 * n2) with h | h
     · rw [show i + 1 - 2 * n2 = 0 by omega]; rfl
     · exact pc_low _ _ _ _ (by rw [L2.out]; omega))
    have HS0 := Lib.hid (prod_step (cols s1 l1) (cols s2 l2) i)
    go_wp2
    go_loopw [9, 10] (fun n x wr => ∃ k : Nat, i + 1 - 2 * n2 ≤ k ∧ k ≤ i + 1 ∧ x = .int .i64 k ∧ n = .int .i64 (pc (cols s1 l1) (cols s2 l2) i k) ∧ wr.ownsRow wn.heap.size 3 1 (.slice A' i c') i (i64s ((List.range i).map (cf (cols s1 l1) (cols s2 l2)))) ∧ Below wn.heap.size wn wr) (fun _ x _ => i + 1 - (intOf x).toNat)
    case atStart => exact ⟨i + 1 - 2 * n2, Nat.le_refl _, by omega, congrArg (Value.int .i64) (by omega), congrArg (Value.int .i64) HP0.out.symm, HOWN.out, HBR.out⟩
    case round =>
     obtain ⟨k, hk0, hk, rfl, rfl, hown, hb⟩ := hrel
     have HBI := Lib.hid hb
     have HOWI := Lib.hid hown
     have owi := hb.size
     clear hown
     by_cases hg : k ≤ i ∧ k < 2 * n1
     · obtain ⟨g1, g2⟩ := hg
       obtain ⟨j, hj⟩ : ∃ j, j = i - k := ⟨_, rfl⟩
       obtain ⟨p1, o1, x, e1, lt1, hx, t1⟩ := (hN1.all _ hb).at_ g2
       obtain ⟨p2, o2, y, e2, lt2, hy, t2⟩ := (hN2.all _ hb).at_ (show j < 2 * n2 by omega)
       subst e1
       subst e2
       have m1 := mul_bd (B1.out x (List.mem_of_getElem? hx)) (B2.out y (List.mem_of_getElem? hy))
       have m2 := pc_bd B1.out B2.out i k
       have HS : Hid (pc (cols s1 l1) (cols s2 l2) i (k + 1) = pc (cols s1 l1) (cols s2 l2) i k + x * y) := Lib.hid (by
        rw [pc, ← hj, List.getD_eq_getElem?_getD, List.getD_eq_getElem?_getD, hx, hy]; rfl)
       generalize pc (cols s1 l1) (cols s2 l2) i k = P at m2 HS ⊢
       have hji : (i : Int) - (k : Int) = (j : Int) := by omega
       have z1 : (0 : Int) ≤ (k : Int) := by omega
       have z2 : (k : Int) < ((2 * n1 : Nat) : Int) := by omega
       have z3 : (0 : Int) ≤ (j : Int) := by omega
       have z4 : (j : Int) < ((2 * n2 : Nat) : Int) := by omega
       have o1' : p1 < wr.heap.size := by omega
       have o2' : p2 < wr.heap.size := by omega
       clear hx hy hb hj
       go_wp2
       go_quiet (fail)
       go_wp2
       go_roundw
       case rel => exact ⟨k + 1, by omega, by omega, by go_num, congrArg (Value.int .i64) HS.out.symm, own_step HOWI.out (Below.drewN (Below.refl _ _) _), Below.drewN HBI.out _⟩
       case measure => (simp [intOf]; omega)
     · have HF : Hid (pc (cols s1 l1) (cols s2 l2) i k = cf (cols s1 l1) (cols s2 l2) i) := Lib.hid (by
        rcases Nat.lt_or_ge i k with h | h
        · rw [show k = i + 1 by omega]; rfl
        · obtain ⟨d, hd⟩ : ∃ d, i + 1 = k + d := ⟨i + 1 - k, by omega⟩
          unfold cf
          rw [hd, pc_high _ _ _ _ (by rw [L1.out]; omega)])
       generalize pc (cols s1 l1) (cols s2 l2) i k = F at HF ⊢
       clear hb
       rcases Nat.lt_or_ge i k with h | h
       · (
          go_wp2_with (at_builtin; go_loud (refine wpList_append_own_at _ rfl _ _ _ rfl wn.heap.size 3 i0 _ 1 8 Tryz.underlying79 HI0.out HZ0.out HZ1.out HZ2.out rfl (by omega) _ _ _ rfl (HOWI.out.alloc _) ⟨wr.heap.size, 0, none⟩ 1 1 [.int .i64 F] rfl rfl (World.news_of_block (cs := #[.int .i64 F]) (t := 3) (fr := (0, 0)) (heap_alloc_new wr _)) (by intro u hu; simp at hu; subst hu; rfl) (by unfold maxLen; omega) (by omega) (by simp; omega) ?_; intro v1 w1 hown1 hg1 _ _; have HO1 := Lib.hid hown1; have HG1 := Lib.hid hg1; clear hown1 hg1))
          go_roundw
          case rel =>
           have hb0 := HBI.out
           refine ⟨i + 1, by omega, by go_num, ?_, (Below.alloc hb0 hb0.size _).grown HG1.out (by simp; omega) (fun q hq => by have := (HOWI.out.lt _ hq).1; omega)⟩
           have := HO1.out
           rw [HS0.out, ← HF.out]
           simpa [i64s] using this
          case measure => (simp [intOf]; omega))
       · have h2 : 2 * n1 ≤ k := by omega
         (
          go_wp2_with (at_builtin; go_loud (refine wpList_append_own_at _ rfl _ _ _ rfl wn.heap.size 3 i0 _ 1 8 Tryz.underlying79 HI0.out HZ0.out HZ1.out HZ2.out rfl (by omega) _ _ _ rfl (HOWI.out.alloc _) ⟨wr.heap.size, 0, none⟩ 1 1 [.int .i64 F] rfl rfl (World.news_of_block (cs := #[.int .i64 F]) (t := 3) (fr := (0, 0)) (heap_alloc_new wr _)) (by intro u hu; simp at hu; subst hu; rfl) (by unfold maxLen; omega) (by omega) (by simp; omega) ?_; intro v1 w1 hown1 hg1 _ _; have HO1 := Lib.hid hown1; have HG1 := Lib.hid hg1; clear hown1 hg1))
          go_roundw
          case rel =>
           have hb0 := HBI.out
           refine ⟨i + 1, by omega, by go_num, ?_, (Below.alloc hb0 hb0.size _).grown HG1.out (by simp; omega) (fun q hq => by have := (HOWI.out.lt _ hq).1; omega)⟩
           have := HO1.out
           rw [HS0.out, ← HF.out]
           simpa [i64s] using this
          case measure => (simp [intOf]; omega))
  · have hV := valc_prod (a := cols s1 l1) (b := cols s2 l2) (m := i) (by rw [L1.out, L2.out]; omega)
    have HV := Lib.hid hV
    have HW := Lib.hid (prods_wide B1.out B2.out i (by omega))
    clear hV
    generalize (List.range i).map (cf (cols s1 l1) (cols s2 l2)) = ls at HOWN HW HV ⊢
    obtain ⟨A', c', rfl, -⟩ := Nums.of_own HOWN.out
    have HN := Lib.hid (Nums.own HOWN.out)
    have kg := HKZ.out.below hb oz
    have hbw := below_to HBW.out hb (by omega)
    clear hb
    go_wp2_with (go_at_call 59; go_loud (with_reducible refine (settledM _ _ _ _ _ HN.out (by omega) HW.out).mono ?_; rintro e wz ⟨hbz, sz, Az, nz, cz, rfl, hlz⟩; have hz := hbz.size; have kz : Bk wz (w.heap.size + 1 + 1) 24 #[.bool false, .slice none 0 0] := kg.below hbz (by omega); have og := kz.lt; obtain ⟨c0, c1⟩ : wz.cell? ⟨w.heap.size + 1 + 1, 0, none⟩ = some (.bool false) ∧ wz.cell? ⟨w.heap.size + 1 + 1, 1, none⟩ = some (.slice none 0 0) := ⟨by simpa using kz.cell 0, by simpa using kz.cell 1⟩; have fr0 := kz.frozen 0; have fr1 := kz.frozen 1; have HKZ := Lib.hid kz; have HBZ : Hid (Below w.heap.size w wz) := Lib.hid (below_to hbw hbz (by omega)); have HVZ : Hid (IntAt wz wz.heap.size (.agg #[.bool sz, .slice Az nz cz]) (valc ls)) := Lib.hid hlz; clear hlz kz kg hbw))
    rw [HV.out] at HVZ
    refine bodyPost_ret (v := .agg #[.bool sz, .slice Az nz cz]) (by simp [results, Tryz.results19, go_sem, c0, c1]) rfl ?_
    exact ⟨(HBZ.out.setCell (by first | (simp; done) | (simp; omega) | omega) _).setCell (by first | (simp; done) | (simp; omega) | omega) _, _, rfl, HVZ.out.pastI HKZ.out _ _⟩
section
variable {w w1 w2 : World} {s1 s2 : Bool} {A1 A2 : Option Addr} {n1 c1 n2 c2 : Nat} {x y : Int} {K1 K2 : Nat} {f1 f2 : Bool}
theorem rprodH (h1 : IntH w1 s1 A1 n1 c1 x K1 f1) (h2 : IntH w2 s2 A2 n2 c2 y K2 f2) (b1 : Below w1.heap.size w1 w) (b2 : Below w2.heap.size w2 w) (k1 : K1 ≤ 1000) (k2 : K2 ≤ 1000) :
 Calls Tryz.prog 19 #[.agg #[.bool s1, .slice A1 n1 c1], .agg #[.bool s2, .slice A2 n2 c2]] w (MakesInt (x * y) (K1 + K2) w) := by
 have a1 := h1.abs
 have a2 := h2.abs
 have e1 := h1.len
 have e2 := h2.len
 obtain ⟨l1, g1, rfl, -⟩ := h1.lim
 obtain ⟨l2, g2, rfl, -⟩ := h2.lim
 refine (refProd_any s1 s2 A1 A2 n1 c1 n2 c2 l1 l2 w (.of g1 b1) (.of g2 b2) (by omega) (by omega)).mono fun e w' h => makes_of h ?_
 rw [Int.natAbs_mul, W_add]
 exact Nat.mul_lt_mul_of_lt_of_lt a1 a2
end
end Go.Proofs.YthlfhfkfjefidaaGreat
