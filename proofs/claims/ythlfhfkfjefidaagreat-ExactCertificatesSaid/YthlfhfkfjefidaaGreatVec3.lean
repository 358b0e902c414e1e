/- Several texts in one. -/
import Derived.Test.YthlfhfkfjefidaaGreatVec1
import Derived.Laws.AppendOwn
import Derived.Laws.CopyOwn
import Derived.Test.YthlfhfkfjefidaaGreatVec2
import Derived.Test.YthlfhfkfjefidaaGreatRefG
/- Rows of fractions of the call's own that grow by append. -/
namespace Go.Proofs.YthlfhfkfjefidaaGreat
open Go Go.RowKit
def FCs (w : World) (l : List Value) (L : List Rat) (K : Nat) : Prop := (∀ (k : Nat) (z : Int), l[k]? ≠ some (.int .u32 z)) ∧ ∀ (k : Nat) (x : Rat), L[k]? = some x → ∃ s1 A1 n1 c1 s2 A2 n2 c2, l[k * 4]? = some (.bool s1) ∧ l[k * 4 + 1]? = some (.slice A1 n1 c1) ∧ l[k * 4 + 2]? = some (.bool s2) ∧ l[k * 4 + 3]? = some (.slice A2 n2 c2) ∧ RatH w s1 A1 n1 c1 s2 A2 n2 c2 x K false
structure OwnR (w : World) (base : Nat) (v : Value) (L : List Rat) (K : Nat) : Prop where
 ex : (v = .slice none 0 0 ∧ L = []) ∨ ∃ g cap cur, v = .slice (some ⟨g, 0, none⟩) L.length cap ∧ base ≤ g ∧ Bk w g 41 cur ∧ L.length ≤ cap ∧ cap ≤ maxLen ∧ cur.size = cap * 4 ∧ FCs w cur.toList L K
theorem OwnR.nil_ (w : World) (base K : Nat) : OwnR w base (.slice none 0 0) [] K := ⟨.inl ⟨rfl, rfl⟩⟩
theorem FCs.later {w w' : World} {l : List Value} {L : List Rat} {K : Nat} (h : FCs w l L K) (hb : Below w.heap.size w w') : FCs w' l L K := ⟨h.1, fun k x hk => by
 obtain ⟨s1, A1, n1, c1, s2, A2, n2, c2, e1, e2, e3, e4, hi⟩ := h.2 k x hk
 exact ⟨s1, A1, n1, c1, s2, A2, n2, c2, e1, e2, e3, e4, hi.aft hb⟩⟩
theorem OwnR.later {w w' : World} {base K : Nat} {v : Value} {L : List Rat} (h : OwnR w base v L K) (hb : Below w.heap.size w w') : OwnR w' base v L K := by
 rcases h.ex with h1 | ⟨g, cap, cur, h1, h2, h3, h4, h5, h6, h7⟩
 · exact ⟨.inl h1⟩
 · exact ⟨.inr ⟨g, cap, cur, h1, h2, h3.below hb h3.lt, h4, h5, h6, h7.later hb⟩⟩
theorem OwnR.rts {w : World} {base K : Nat} {v : Value} {L : List Rat} (h : OwnR w base v L K) : ∃ A c, v = .slice A L.length c ∧ Rts w A L.length c L K := by
 rcases h.ex with ⟨rfl, rfl⟩ | ⟨g, cap, cur, rfl, h2, h3, h4, h5, h6, h7⟩
 · exact ⟨none, 0, rfl, Rts.nil_ w K⟩
 · refine ⟨_, _, rfl, rfl, h4, by simpa [maxLen] using h5, fun k x hk => ?_⟩
   obtain ⟨s1, A1, n1, c1, s2, A2, n2, c2, e1, e2, e3, e4, hi⟩ := h7.2 k x hk
   simp only [Array.getElem?_toList] at e1 e2 e3 e4
   exact ⟨g, 0, s1, A1, n1, c1, s2, A2, n2, c2, rfl, h3.lt, by rw [Nat.zero_add]; exact (h3.cell _).trans e1, by rw [Nat.zero_add]; exact (h3.cell _).trans e2, by rw [Nat.zero_add]; exact (h3.cell _).trans e3, by rw [Nat.zero_add]; exact (h3.cell _).trans e4, hi⟩
theorem fcs_app {w : World} {olds tail : List Value} {L : List Rat} {K : Nat} {s1 : Bool} {A1 : Option Addr} {n1 c1 : Nat} {s2 : Bool} {A2 : Option Addr} {n2 c2 : Nat} {x : Rat} (h : FCs w olds L K) (hl : olds.length = L.length * 4) (ht : ∀ (k : Nat) (z : Int), tail[k]? ≠ some (.int .u32 z)) (hr : RatH w s1 A1 n1 c1 s2 A2 n2 c2 x K false) :
 FCs w (olds ++ [.bool s1, .slice A1 n1 c1, .bool s2, .slice A2 n2 c2] ++ tail) (L ++ [x]) K := by
 refine ⟨fun k z e => ?_, fun k y hk => ?_⟩
 · rw [List.append_assoc] at e
   rcases Nat.lt_or_ge k olds.length with h1 | h1
   · rw [List.getElem?_append_left h1] at e
     exact h.1 k z e
   · rw [List.getElem?_append_right h1] at e
     generalize k - olds.length = j at e
     match j, e with
     | 0, e => simp at e
     | 1, e => simp at e
     | 2, e => simp at e
     | 3, e => simp at e
     | j + 4, e => exact ht j z (by simpa using e)
 · rcases Nat.lt_or_ge k L.length with h1 | h1
   · rw [List.getElem?_append_left h1] at hk
     obtain ⟨t1, B1, m1, d1, t2, B2, m2, d2, e1, e2, e3, e4, hi⟩ := h.2 k y hk
     exact ⟨t1, B1, m1, d1, t2, B2, m2, d2, by rw [List.append_assoc, List.getElem?_append_left (by omega)]; exact e1, by rw [List.append_assoc, List.getElem?_append_left (by omega)]; exact e2, by rw [List.append_assoc, List.getElem?_append_left (by omega)]; exact e3, by rw [List.append_assoc, List.getElem?_append_left (by omega)]; exact e4, hi⟩
   · have hk2 := (List.getElem?_eq_some_iff.1 hk).1
     simp only [List.length_append, List.length_singleton] at hk2
     obtain rfl : k = L.length := by omega
     rw [List.getElem?_append_right (Nat.le_refl _), Nat.sub_self] at hk
     obtain rfl : x = y := by simpa using hk
     refine ⟨s1, A1, n1, c1, s2, A2, n2, c2, ?_, ?_, ?_, ?_, hr⟩
     · rw [List.append_assoc, List.getElem?_append_right (by omega), show L.length * 4 - olds.length = 0 by omega]; rfl
     · rw [List.append_assoc, List.getElem?_append_right (by omega), show L.length * 4 + 1 - olds.length = 1 by omega]; rfl
     · rw [List.append_assoc, List.getElem?_append_right (by omega), show L.length * 4 + 2 - olds.length = 2 by omega]; rfl
     · rw [List.append_assoc, List.getElem?_append_right (by omega), show L.length * 4 + 3 - olds.length = 3 by omega]; rfl
theorem nou_zero (m : Nat) : ∀ (k : Nat) (z : Int), (Builtin.zeroCells #[.bool false, .slice none 0 0, .bool false, .slice none 0 0] m).toList[k]? ≠ some (.int .u32 z) := fun k z e => by
 rw [Array.getElem?_toList] at e
 have hk : k < m * 4 := by
  have := (Array.getElem?_eq_some_iff.1 e).1
  rw [size_zeroCells] at this
  simpa using this
 have e2 : (madeCells #[.bool false, .slice none 0 0, .bool false, .slice none 0 0] (m * 4))[k]? = some (.int .u32 z) := e
 rw [made_get (q := 4) rfl (by omega) hk] at e2
 rcases (show k % 4 = 0 ∨ k % 4 = 1 ∨ k % 4 = 2 ∨ k % 4 = 3 by omega) with h | h | h | h <;> rw [h] at e2 <;> simp at e2
theorem FCs.take {w : World} {l : List Value} {L : List Rat} {K m : Nat} (h : FCs w l L K) (hm : L.length * 4 ≤ m) : FCs w (l.take m) L K := by
 refine ⟨fun k z e => ?_, fun k x hk => ?_⟩
 · rw [List.getElem?_take] at e
   split at e
   · exact h.1 k z e
   · cases e
 · have hlt := (List.getElem?_eq_some_iff.1 hk).1
   obtain ⟨s1, A1, n1, c1, s2, A2, n2, c2, e1, e2, e3, e4, hi⟩ := h.2 k x hk
   exact ⟨s1, A1, n1, c1, s2, A2, n2, c2, by rw [List.getElem?_take, if_pos (by omega)]; exact e1, by rw [List.getElem?_take, if_pos (by omega)]; exact e2, by rw [List.getElem?_take, if_pos (by omega)]; exact e3, by rw [List.getElem?_take, if_pos (by omega)]; exact e4, hi⟩
theorem chg_row (w : World) (g : Nat) (cs : Array Value) : Chg g w (w.setRow g cs) :=
 ⟨size_setRow w g cs, fun p hp => by unfold World.cell?; rw [setRow_other w g p.block cs hp], fun k t c hk hb => (setRow_other w g k cs hk).trans hb⟩
theorem app_rat {w : World} {base K : Nat} {vw : Value} {L : List Rat} {x : Rat} {s1 : Bool} {A1 : Option Addr} {n1 c1 : Nat} {s2 : Bool} {A2 : Option Addr} {n2 c2 : Nat} {ops : Array Oper} {rest : List Oper} {o : Oper} {a : Act} {Q : Exit → Act → World → Prop} (h : OwnR w base vw L K) (hgd : o.guard = none) (s y : Operand) (ho : o.op = .call { callee := .builtin .append, args := #[s, y], argTypes := #[58, 58] })
 (hs : a.eval s = vw) (B : Nat) (hx : a.eval y = .slice (some ⟨B, 0, none⟩) 1 1) (hB : Bk w B 41 #[.bool s1, .slice A1 n1 c1, .bool s2, .slice A2 n2 c2]) (hr : RatH w s1 A1 n1 c1 s2 A2 n2 c2 x K false) (hn : L.length ≤ 30000) (hbase : base ≤ w.heap.size)
 (hK : ∀ v' w', OwnR w' base v' (L ++ [x]) K → Below base w w' → wpList Tryz.prog ops Q rest (a.put o.dst v') w') : wpList Tryz.prog ops Q (o :: rest) a w := by
 obtain ⟨i0, hi0, hz0, hs0, hb0⟩ := info_trio info_rat
 have hnews : ∀ j u, ([.bool s1, .slice A1 n1 c1, .bool s2, .slice A2 n2 c2] : List Value)[j]? = some u → w.cell? ((⟨B, 0, none⟩ : Addr).add j) = some u := World.news_of_block (fr := (0, 0)) hB
 have key : ∃ v' w', (Builtin.append_ #[58, 58] o.type #[vw, .slice (some ⟨B, 0, none⟩) 1 1]).run Tryz.prog w = .ok v' w' ∧ OwnR w' base v' (L ++ [x]) K ∧ Below base w w' := by
  rcases h.ex with ⟨rfl, rfl⟩ | ⟨g, cap, cur, rfl, h2, h3, h4, h5, h6, h7⟩
  · have hrun := run_append_nil (P := Tryz.prog) w 58 o.type 41 i0 _ Tryz.underlying58 hi0 hz0 ⟨B, 0, none⟩ 1 1 [.bool s1, .slice A1 n1 c1, .bool s2, .slice A2 n2 c2] (by rw [hs0]; rfl) hnews (by omega) (by omega) (by rw [hb0]; omega)
    have hcap := grownCap_ge w 1 0 41
    have hmax := grownCap_le_maxLen w 1 0 41 (by unfold maxLen; omega)
    have hb : Below w.heap.size w (w.drew.alloc (.cells (([.bool s1, .slice A1 n1 c1, .bool s2, .slice A2 n2 c2] : List Value).toArray ++ Builtin.zeroCells #[.bool false, .slice none 0 0, .bool false, .slice none 0 0] (grownCap w 1 0 41 - 1)) 41)) := Below.alloc (Below.drew (Below.refl _ _)) (Nat.le_refl _) _
    refine ⟨_, _, hrun, ⟨.inr ⟨w.heap.size, _, _, rfl, hbase, Bk.alloc_ _ _ _, hcap, hmax, ?_, ?_⟩⟩, hb.mono hbase⟩
    · rw [Array.size_append, size_zeroCells]
      show 4 + (grownCap w 1 0 41 - 1) * 4 = _
      omega
    · have hf := fcs_app (w := w.drew.alloc (.cells (([.bool s1, .slice A1 n1 c1, .bool s2, .slice A2 n2 c2] : List Value).toArray ++ Builtin.zeroCells #[.bool false, .slice none 0 0, .bool false, .slice none 0 0] (grownCap w 1 0 41 - 1)) 41)) (olds := []) (L := []) (K := K) ⟨fun k z e => by simp at e, fun k x hk => by simp at hk⟩ rfl (nou_zero (grownCap w 1 0 41 - 1)) (hr.aft hb)
      rw [Array.toList_append]
      exact hf
  · by_cases hroom : L.length + 1 ≤ cap
    · have hrun := run_append_room (P := Tryz.prog) w 58 o.type 41 i0 Tryz.underlying58 hi0 g L.length cap cur h3 ⟨B, 0, none⟩ 1 1 [.bool s1, .slice A1 n1 c1, .bool s2, .slice A2 n2 c2] (by rw [hs0]; rfl) hnews (by intro u hu; simp at hu; rcases hu with rfl | rfl | rfl | rfl <;> rfl) hroom (by rw [hs0, h6]; simp; omega)
      rw [hs0] at hrun
      have hc := chg_row w g (cur.toList.take (L.length * 4) ++ ([.bool s1, .slice A1 n1 c1, .bool s2, .slice A2 n2 c2] : List Value) ++ cur.toList.drop (L.length * 4 + 4)).toArray
      have hnc : nou cur := fun k z e => h7.1 k z (by rw [Array.getElem?_toList]; exact e)
      refine ⟨_, _, hrun, ⟨.inr ⟨g, cap, _, by simp, h2, setRow_heap w g cur _ _ _ h3, by simpa using hroom, h5, ?_, ?_⟩⟩, below_setRow (Below.refl _ _) h2 _⟩
      · simp
        omega
      · refine fcs_app (olds := cur.toList.take (L.length * 4)) ?_ ?_ ?_ (hr.chg h3 hnc hc)
        · have hft := h7.take (Nat.le_refl (L.length * 4))
          exact ⟨hft.1, fun k y hk => by
           obtain ⟨t1, B1, m1, d1, t2, B2, m2, d2, e1, e2, e3, e4, hi⟩ := hft.2 k y hk
           exact ⟨t1, B1, m1, d1, t2, B2, m2, d2, e1, e2, e3, e4, hi.chg h3 hnc hc⟩⟩
        · have h8 : cur.toList.length = cap * 4 := by rw [Array.length_toList, h6]
          rw [List.length_take, h8]
          omega
        · intro k z e
          rw [List.getElem?_drop] at e
          exact h7.1 _ z e
    · have hol : (cur.toList.take (L.length * 4)).length = L.length * i0.size := by
       have h8 : cur.toList.length = cap * 4 := by rw [Array.length_toList, h6]
       rw [List.length_take, h8, hs0]
       omega
      have hrun := run_append_grow (P := Tryz.prog) w 58 o.type 41 i0 _ Tryz.underlying58 hi0 hz0 ⟨g, 0, none⟩ L.length cap (cur.toList.take (L.length * 4)) hol (fun j u hu => by
       rw [List.getElem?_take] at hu
       split at hu
       · rw [Array.getElem?_toList] at hu
         have e : (⟨g, 0, none⟩ : Addr).add j = ⟨g, j, none⟩ := by simp [Addr.add]; omega
         rw [e]
         exact (h3.cell j).trans hu
       · cases hu) ⟨B, 0, none⟩ 1 1 [.bool s1, .slice A1 n1 c1, .bool s2, .slice A2 n2 c2] (by rw [hs0]; rfl) hnews (by omega) (by omega) (growslice_fits (by omega) (by rw [hb0]; omega))
      have hcap := grownCap_ge w (L.length + 1) cap 41
      have hmax := grownCap_le_maxLen w (L.length + 1) cap 41 (by unfold maxLen; omega)
      have hb : Below w.heap.size w (w.drew.alloc (.cells ((cur.toList.take (L.length * 4)).toArray ++ ([.bool s1, .slice A1 n1 c1, .bool s2, .slice A2 n2 c2] : List Value).toArray ++ Builtin.zeroCells #[.bool false, .slice none 0 0, .bool false, .slice none 0 0] (grownCap w (L.length + 1) cap 41 - (L.length + 1))) 41)) := Below.alloc (Below.drew (Below.refl _ _)) (Nat.le_refl _) _
      refine ⟨_, _, hrun, ⟨.inr ⟨w.heap.size, _, _, by simp, hbase, Bk.alloc_ _ _ _, by simpa using hcap, hmax, ?_, ?_⟩⟩, hb.mono hbase⟩
      · rw [Array.size_append, Array.size_append, size_zeroCells]
        rw [hs0] at hol
        show (cur.toList.take (L.length * 4)).length + 4 + (grownCap w (L.length + 1) cap 41 - (L.length + 1)) * 4 = _
        rw [hol]
        omega
      · have hf := fcs_app (w := w.drew.alloc (.cells ((cur.toList.take (L.length * 4)).toArray ++ ([.bool s1, .slice A1 n1 c1, .bool s2, .slice A2 n2 c2] : List Value).toArray ++ Builtin.zeroCells #[.bool false, .slice none 0 0, .bool false, .slice none 0 0] (grownCap w (L.length + 1) cap 41 - (L.length + 1))) 41)) ((h7.take (Nat.le_refl (L.length * 4))).later hb) (by rw [hol, hs0]) (nou_zero (grownCap w (L.length + 1) cap 41 - (L.length + 1))) (hr.aft hb)
        rw [Array.toList_append, Array.toList_append]
        exact hf
 obtain ⟨v', w', hrun, h1, h2⟩ := key
 refine wpList_plain hgd fun K hKK => ?_
 unfold Oper.wp execOp
 simp only [ho, resolve, invoke, builtin, Sem.run_bind, Sem.run_pure, Result.andThen_ok, List.map_toArray, List.map_cons, List.map_nil, hs, hx, hrun]
 exact hKK _ _ (hK v' w' h1 h2)
end Go.Proofs.YthlfhfkfjefidaaGreat
/- Lists of fractions, the reference: Dot, AtLeast, zeros, Times. -/
namespace Go.Proofs.YthlfhfkfjefidaaGreat
open Go Go.RowKit
theorem rwhole0 (w : World) : Calls Tryz.prog 29 #[.int .i64 0] w (MakesRat 0 6 w) := by
 have h := rwholeH 0 w (by omega) (by omega)
 rwa [show Rat.divInt 0 1 = 0 by simp] at h
theorem cmpQ_num (x y : Rat) : cmpI (x - y).num 0 = cmpQ x y := by rw [cmp_num_, cmpQ_sub]
theorem FAt.cells {w : World} {b o : Nat} {x : Rat} {K : Nat} {s1 : Bool} {A1 : Option Addr} {n1 c1 : Nat} {s2 : Bool} {A2 : Option Addr} {n2 c2 : Nat} (h : FAt w b o x K s1 A1 n1 c1 s2 A2 n2 c2) (hlt : b < w.heap.size) {w' : World} (hb : Below w.heap.size w w') :
 w'.cell? ⟨b, o, none⟩ = some (.bool s1) ∧ w'.cell? ⟨b, o + 1, none⟩ = some (.slice A1 n1 c1) ∧ w'.cell? ⟨b, o + 2, none⟩ = some (.bool s2) ∧ w'.cell? ⟨b, o + 3, none⟩ = some (.slice A2 n2 c2) :=
 ⟨(hb.cell (p := ⟨b, o, none⟩) hlt).trans h.ha, (hb.cell (p := ⟨b, o + 1, none⟩) hlt).trans h.hb, (hb.cell (p := ⟨b, o + 2, none⟩) hlt).trans h.hc, (hb.cell (p := ⟨b, o + 3, none⟩) hlt).trans h.hd⟩
set_option maxRecDepth 100000 in
set_option maxHeartbeats 8000000 in
theorem rdot_any {w : World} {A B : Option Addr} {n c d : Nat} {X Y : List Rat} (h1 : Rts w A n c X 3) (h2 : Rts w B n d Y 3) (hn : n ≤ 4) :
 Calls Tryz.prog 90 #[.slice A n c, .slice B n d] w (RatOut (dotQ X Y) (6 + n * 7) w) := by
 have hcap1 := h1.cap
 have hmax1 := h1.max
 have hcap2 := h2.cap
 have hmax2 := h2.max
 have HL1 := Lib.hid h1.len
 have HL2 := Lib.hid h2.len
 have H1 := Lib.hid h1
 have H2 := Lib.hid h2
 clear h1 h2
 go_enter Tryz.func90, Tryz.ntmps90
 go_upto_region 1 with fail
 generalize hW : (World.alloc _ _) = W
 have HB0 : Hid (Below w.heap.size w W) := Lib.hid (by rw [← hW]; exact below_alloc1 _ _)
 have HZ0 : Hid (Bk W w.heap.size 41 #[.bool false, .slice none 0 0, .bool false, .slice none 0 0]) := Lib.hid (by rw [← hW]; exact Bk.alloc_ _ _ _)
 clear hW
 go_upto_region 2 with (go_at_call 29; go_loud (refine (rwhole0 _).mono ?_; rintro e w1 ⟨hb, t1, D1, m1, d1, t2, D2, m2, d2, rfl, hq⟩; have HB1 := Lib.hid (below_to HB0.out hb HB0.out.size); have HZ1 := Lib.hid (HZ0.out.below hb HZ0.out.lt); have HQ1 := Lib.hid hq; clear hb hq))
 obtain ⟨gs, hgs⟩ : ∃ x, w1.heap.size = x := ⟨_, rfl⟩
 have lgs : w.heap.size < gs := by have := HZ1.out.lt; omega
 generalize hW : (World.alloc _ _) = wW
 have hb3 : Below w1.heap.size w1 wW := by rw [← hW]; exact below_alloc1 _ _
 have HS2 : Hid (Bk wW gs 41 #[.bool t1, .slice D1 m1 d1, .bool t2, .slice D2 m2 d2]) := Lib.hid (by rw [← hW]; exact Bk.at_ hgs)
 try rw [hgs]
 clear hW hgs
 have HB2 := Lib.hid (below_to HB1.out hb3 HB1.out.size)
 have HZ2 := Lib.hid (HZ1.out.below hb3 HZ1.out.lt)
 have HR2 := Lib.hid (HQ1.out.aft hb3).soft
 clear hb3
 go_wp2
 go_loopw [6] (fun v6 wr => ∃ (k : Nat) (t1 : Bool) (D1 : Option Addr) (m1 d1 : Nat) (t2 : Bool) (D2 : Option Addr) (m2 d2 : Nat), k ≤ n ∧ v6 = .int .i64 (k : Int) ∧ Below w.heap.size w wr ∧ Bk wr w.heap.size 41 #[.bool false, .slice none 0 0, .bool false, .slice none 0 0] ∧ Bk wr gs 41 #[.bool t1, .slice D1 m1 d1, .bool t2, .slice D2 m2 d2] ∧ RatH wr t1 D1 m1 d1 t2 D2 m2 d2 (dotQ (X.take k) (Y.take k)) (6 + k * 7) false) (fun v6 _ => n - (intOf v6).toNat)
 case atStart => exact ⟨0, t1, D1, m1, d1, t2, D2, m2, d2, Nat.zero_le _, rfl, HB2.out, HZ2.out, HS2.out, by simpa [dotQ] using HR2.out⟩
 case round =>
  clear HB2 HZ2 HS2 HR2
  obtain ⟨k, t1, D1, m1, d1, t2, D2, m2, d2, hk, rfl, hb, hz, hs, hr⟩ := hrel
  have HBd := Lib.hid (Below.drew hb)
  have HZd : Hid (Bk (World.drew wr) w.heap.size 41 #[.bool false, .slice none 0 0, .bool false, .slice none 0 0]) := Lib.hid hz
  have HSd : Hid (Bk (World.drew wr) gs 41 #[.bool t1, .slice D1 m1 d1, .bool t2, .slice D2 m2 d2]) := Lib.hid hs
  have HRd := Lib.hid (hr.aft (Below.drew (Below.refl _ _)))
  have HB := Lib.hid hb
  have HZ := Lib.hid hz
  have HS := Lib.hid hs
  have HR := Lib.hid hr
  clear hb hz hs hr
  rcases Nat.lt_or_ge k n with hlt | hge
  · clear HB HZ HS HR
    obtain ⟨x, hx⟩ : ∃ x, X[k]? = some x := ⟨X[k]'(by rw [HL1.out]; exact hlt), List.getElem?_eq_getElem _⟩
    obtain ⟨y, hy⟩ : ∃ y, Y[k]? = some y := ⟨Y[k]'(by rw [HL2.out]; exact hlt), List.getElem?_eq_getElem _⟩
    have HSTEP := Lib.hid (dotQ_take hx hy)
    obtain ⟨b, o, s1, A1, n1, c1, s2, A2, n2, c2, rfl, hbl, fa⟩ := H1.out.at_ k x hx
    obtain ⟨b2, o2, s3, A3, n3, c3, s4, A4, n4, c4, rfl, hbl2, fb⟩ := H2.out.at_ k y hy
    have HX := Lib.hid fun w' hb => fa.cells (w' := w') hbl hb
    have HY := Lib.hid fun w' hb => fb.cells (w' := w') hbl2 hb
    have HFX := Lib.hid fa.r
    have HFY := Lib.hid fb.r
    clear hx hy fa fb
    have zk : (0 : Int) ≤ (k : Int) := by omega
    have zn : (k : Int) < (n : Int) := by omega
    go_upto_region 5 with fail
    have hC : (fun w' : World => w'.cell? ⟨gs, 0, none⟩ = some (.bool t1) ∧ w'.cell? ⟨gs, 1, none⟩ = some (.slice D1 m1 d1) ∧ w'.cell? ⟨gs, 2, none⟩ = some (.bool t2) ∧ w'.cell? ⟨gs, 3, none⟩ = some (.slice D2 m2 d2) ∧ w'.cell? ⟨b, o + k * 4, none⟩ = some (.bool s1) ∧ w'.cell? ⟨b, o + k * 4 + 1, none⟩ = some (.slice A1 n1 c1) ∧ w'.cell? ⟨b, o + k * 4 + 2, none⟩ = some (.bool s2) ∧ w'.cell? ⟨b, o + k * 4 + 3, none⟩ = some (.slice A2 n2 c2) ∧ w'.cell? ⟨b2, o2 + k * 4, none⟩ = some (.bool s3) ∧ w'.cell? ⟨b2, o2 + k * 4 + 1, none⟩ = some (.slice A3 n3 c3) ∧ w'.cell? ⟨b2, o2 + k * 4 + 2, none⟩ = some (.bool s4) ∧ w'.cell? ⟨b2, o2 + k * 4 + 3, none⟩ = some (.slice A4 n4 c4)) wr.drew := ⟨HSd.out.four4.1, HSd.out.four4.2.1, HSd.out.four4.2.2.1, HSd.out.four4.2.2.2, (HX.out _ HBd.out).1, (HX.out _ HBd.out).2.1, (HX.out _ HBd.out).2.2.1, (HX.out _ HBd.out).2.2.2, HY.out _ HBd.out⟩
    refine region_goes (n := 12) (fun w' : World => w'.cell? ⟨gs, 0, none⟩ = some (.bool t1) ∧ w'.cell? ⟨gs, 1, none⟩ = some (.slice D1 m1 d1) ∧ w'.cell? ⟨gs, 2, none⟩ = some (.bool t2) ∧ w'.cell? ⟨gs, 3, none⟩ = some (.slice D2 m2 d2) ∧ w'.cell? ⟨b, o + k * 4, none⟩ = some (.bool s1) ∧ w'.cell? ⟨b, o + k * 4 + 1, none⟩ = some (.slice A1 n1 c1) ∧ w'.cell? ⟨b, o + k * 4 + 2, none⟩ = some (.bool s2) ∧ w'.cell? ⟨b, o + k * 4 + 3, none⟩ = some (.slice A2 n2 c2) ∧ w'.cell? ⟨b2, o2 + k * 4, none⟩ = some (.bool s3) ∧ w'.cell? ⟨b2, o2 + k * 4 + 1, none⟩ = some (.slice A3 n3 c3) ∧ w'.cell? ⟨b2, o2 + k * 4 + 2, none⟩ = some (.bool s4) ∧ w'.cell? ⟨b2, o2 + k * 4 + 3, none⟩ = some (.slice A4 n4 c4)) [11] (by kernel_rfl) rfl ?_
    refine gt12 0 [10, 11] (.agg #[.bool t1, .slice D1 m1 d1, .bool t2, .slice D2 m2 d2]) hC ?_
    refine gt12 1 [3, 4, 9, 10, 11] (.slice (some ⟨b, o, none⟩) n c) hC ?_
    refine gt12 2 [3, 4, 9, 10, 11] (.int .i64 (k : Int)) hC ?_
    refine gt12 3 [4, 9, 10, 11] (.pointer (some ⟨b, o + k * 4, none⟩)) hC ?_
    refine gt12 4 [9, 10, 11] (.agg #[.bool s1, .slice A1 n1 c1, .bool s2, .slice A2 n2 c2]) hC ?_
    refine gt12 5 [7, 8, 9, 10, 11] (.slice (some ⟨b2, o2, none⟩) n d) hC ?_
    refine gt12 6 [7, 8, 9, 10, 11] (.int .i64 (k : Int)) hC ?_
    refine gt12 7 [8, 9, 10, 11] (.pointer (some ⟨b2, o2 + k * 4, none⟩)) hC ?_
    refine gt12 8 [9, 10, 11] (.agg #[.bool s3, .slice A3 n3 c3, .bool s4, .slice A4 n4 c4]) hC ?_
    refine gc 9 ?_
    clear hC
    simp only [List.getElem_toArray, List.getElem_cons_succ, List.getElem_cons_zero, Act.put, List.setIfInBounds_toArray, List.set_cons_succ, List.set_cons_zero]
    go_wp2_with (go_at_call 37; go_loud (with_reducible refine (rmulH HFX.out HFY.out HBd.out HBd.out (by omega) (by omega) (by omega)).mono ?_; rintro e wm ⟨hb, s5, A5, n5, c5, s6, A6, n6, c6, rfl, hq⟩; have HBm := Lib.hid (below_to HBd.out hb HBd.out.size); have HSm := Lib.hid (HSd.out.below hb HSd.out.lt); have HZm := Lib.hid (HZd.out.below hb HZd.out.lt); have HRm := Lib.hid (HRd.out.aft hb); have HQ := Lib.hid hq; clear hb hq))
    have hC : (fun w' : World => w'.cell? ⟨gs, 0, none⟩ = some (.bool t1) ∧ w'.cell? ⟨gs, 1, none⟩ = some (.slice D1 m1 d1) ∧ w'.cell? ⟨gs, 2, none⟩ = some (.bool t2) ∧ w'.cell? ⟨gs, 3, none⟩ = some (.slice D2 m2 d2) ∧ w'.cell? ⟨b, o + k * 4, none⟩ = some (.bool s1) ∧ w'.cell? ⟨b, o + k * 4 + 1, none⟩ = some (.slice A1 n1 c1) ∧ w'.cell? ⟨b, o + k * 4 + 2, none⟩ = some (.bool s2) ∧ w'.cell? ⟨b, o + k * 4 + 3, none⟩ = some (.slice A2 n2 c2) ∧ w'.cell? ⟨b2, o2 + k * 4, none⟩ = some (.bool s3) ∧ w'.cell? ⟨b2, o2 + k * 4 + 1, none⟩ = some (.slice A3 n3 c3) ∧ w'.cell? ⟨b2, o2 + k * 4 + 2, none⟩ = some (.bool s4) ∧ w'.cell? ⟨b2, o2 + k * 4 + 3, none⟩ = some (.slice A4 n4 c4)) wm := ⟨HSm.out.four4.1, HSm.out.four4.2.1, HSm.out.four4.2.2.1, HSm.out.four4.2.2.2, (HX.out _ HBm.out).1, (HX.out _ HBm.out).2.1, (HX.out _ HBm.out).2.2.1, (HX.out _ HBm.out).2.2.2, HY.out _ HBm.out⟩
    refine behind_ok ⟨hC, ?_⟩
    refine gc 10 ?_
    clear hC
    go_wp2_with (go_at_call 33; go_loud (with_reducible refine (raddH HRm.out HQ.out (Below.refl _ _) (Below.refl _ _) (by omega) (by omega) (by omega)).mono ?_; rintro e wa ⟨hb, s7, A7, n7, c7, s8, A8, n8, c8, rfl, hq⟩; have HBa := Lib.hid (below_to HBm.out hb HBm.out.size); have HSa := Lib.hid (HSm.out.below hb HSm.out.lt); have HZa := Lib.hid (HZm.out.below hb HZm.out.lt); have HRa := Lib.hid (HRm.out.aft hb); have HQA := Lib.hid hq; clear hb hq))
    have hC : (fun w' : World => w'.cell? ⟨gs, 0, none⟩ = some (.bool t1) ∧ w'.cell? ⟨gs, 1, none⟩ = some (.slice D1 m1 d1) ∧ w'.cell? ⟨gs, 2, none⟩ = some (.bool t2) ∧ w'.cell? ⟨gs, 3, none⟩ = some (.slice D2 m2 d2) ∧ w'.cell? ⟨b, o + k * 4, none⟩ = some (.bool s1) ∧ w'.cell? ⟨b, o + k * 4 + 1, none⟩ = some (.slice A1 n1 c1) ∧ w'.cell? ⟨b, o + k * 4 + 2, none⟩ = some (.bool s2) ∧ w'.cell? ⟨b, o + k * 4 + 3, none⟩ = some (.slice A2 n2 c2) ∧ w'.cell? ⟨b2, o2 + k * 4, none⟩ = some (.bool s3) ∧ w'.cell? ⟨b2, o2 + k * 4 + 1, none⟩ = some (.slice A3 n3 c3) ∧ w'.cell? ⟨b2, o2 + k * 4 + 2, none⟩ = some (.bool s4) ∧ w'.cell? ⟨b2, o2 + k * 4 + 3, none⟩ = some (.slice A4 n4 c4)) wa := ⟨HSa.out.four4.1, HSa.out.four4.2.1, HSa.out.four4.2.2.1, HSa.out.four4.2.2.2, (HX.out _ HBa.out).1, (HX.out _ HBa.out).2.1, (HX.out _ HBa.out).2.2.1, (HX.out _ HBa.out).2.2.2, HY.out _ HBa.out⟩
    refine behind_ok ⟨hC, ?_⟩
    clear hC
    refine goes_last (i := 11) rfl (by kernel_rfl) (by kernel_rfl) ?_
    obtain ⟨q0, q1, q2, q3⟩ := HSa.out.four4
    have f0 := HSa.out.frozen 0
    have f1 := HSa.out.frozen 1
    have f2 := HSa.out.frozen 2
    have f3 := HSa.out.frozen 3
    go_wp2_with fail
    obtain ⟨wV, hV, hbV, hsV, hqV, hkV, -⟩ := stored_over HBa.out (show w.heap.size ≤ gs by omega) HSa.out HQA.out.soft
    rw [← hV]
    have HBV := Lib.hid hbV
    have HSV := Lib.hid hsV
    have HQV := Lib.hid hqV
    have HZV := Lib.hid (hkV _ _ _ (show w.heap.size ≠ gs by omega) HZa.out)
    clear hV hbV hsV hqV hkV q0 q1 q2 q3 f0 f1 f2 f3
    refine behind_ok ?_
    refine goes_done (by kernel_rfl) ?_
    go_wp2
    go_roundw
    case rel => exact ⟨k + 1, s7, A7, n7, c7, s8, A8, n8, c8, by omega, by go_num, HBV.out, HZV.out, HSV.out, by
     rw [HSTEP.out, show 6 + (k + 1) * 7 = 6 + k * 7 + (3 + 3) + 1 by omega]
     exact HQV.out⟩
    case measure => simp [intOf]; omega
  · clear HBd HZd HSd HRd
    obtain rfl : n = k := by omega
    have hend : dotQ (X.take n) (Y.take n) = dotQ X Y := by
     have e1 := HL1.out
     have e2 := HL2.out
     rw [List.take_of_length_le (by omega), List.take_of_length_le (by omega)]
    rw [hend] at HR
    clear hend
    obtain ⟨x0, x1, x2, x3⟩ := HS.out.four4
    obtain ⟨y0, y1, y2, y3⟩ := HZ.out.four4
    have f0 := HZ.out.frozen 0
    have f1 := HZ.out.frozen 1
    have f2 := HZ.out.frozen 2
    have f3 := HZ.out.frozen 3
    go_wp2
    obtain ⟨wV, hV, hbV, hsV, hqV, -⟩ := stored_over HB.out (Nat.le_refl _) HZ.out HR.out
    rw [← hV]
    obtain ⟨u0, u1, u2, u3⟩ := hsV.four4
    have HQV := Lib.hid (And.intro hbV hqV)
    clear hV hbV hsV hqV y0 y1 y2 y3 x0 x1 x2 x3 f0 f1 f2 f3
    refine bodyPost_ret (v := .agg #[.bool t1, .slice D1 m1 d1, .bool t2, .slice D2 m2 d2]) (by simp [results, Tryz.results90, go_sem, u0, u1, u2, u3]) rfl ?_
    exact ⟨HQV.out.1, t1, D1, m1, d1, t2, D2, m2, d2, rfl, HQV.out.2⟩
set_option maxRecDepth 100000 in
set_option maxHeartbeats 8000000 in
theorem atLeast_any {w : World} {A B : Option Addr} {n m c d K1 K2 : Nat} {X Y : List Rat} (h1 : Rts w A n c X K1) (h2 : Rts w B m d Y K2) (k1 : 0 < K1) (k2 : 0 < K2) (hk : K1 + K2 ≤ 44) :
 Calls Tryz.prog 87 #[.slice A n c, .slice B m d] w fun e w' => Below w.heap.size w w' ∧ e = .returned (.bool (decide (n = m) && leL Y X)) := by
 have hcap1 := h1.cap
 have hmax1 := h1.max
 have hcap2 := h2.cap
 have hmax2 := h2.max
 have HL1 := Lib.hid h1.len
 have HL2 := Lib.hid h2.len
 have H1 := Lib.hid h1
 have H2 := Lib.hid h2
 clear h1 h2
 by_cases q : n = m
 · subst q
   rw [decide_eq_true rfl, Bool.true_and]
   obtain ⟨E, hE⟩ : ∃ E, leL Y X = E := ⟨_, rfl⟩
   have HE := Lib.hid hE
   rw [hE]
   clear hE
   go_enter Tryz.func87, Tryz.ntmps87
   go_wp2
   go_loopw [5] (fun v5 wr => ∃ (k : Nat), k ≤ n ∧ v5 = .int .i64 (k : Int) ∧ Below w.heap.size w wr ∧ Hid (∀ (j : Nat) (a b : Rat), j < k → Y[j]? = some a → X[j]? = some b → a ≤ b)) (fun v5 _ => n - (intOf v5).toNat)
   case atStart => exact ⟨0, Nat.zero_le _, rfl, Below.refl _ _, Lib.hid fun i a b hi => absurd hi (Nat.not_lt_zero _)⟩
   case round =>
    obtain ⟨k, hk, rfl, hb, HT⟩ := hrel
    have HB := Lib.hid hb
    have HBd := Lib.hid (Below.drew hb)
    clear hb
    rcases Nat.lt_or_ge k n with hlt | hge
    · obtain ⟨x, hx⟩ : ∃ x, X[k]? = some x := ⟨X[k]'(by rw [HL1.out]; exact hlt), List.getElem?_eq_getElem _⟩
      obtain ⟨y, hy⟩ : ∃ y, Y[k]? = some y := ⟨Y[k]'(by rw [HL2.out]; exact hlt), List.getElem?_eq_getElem _⟩
      obtain ⟨b, o, s1, A1, n1, c1, s2, A2, n2, c2, rfl, hbl, fa⟩ := H1.out.at_ k x hx
      obtain ⟨b2, o2, s3, A3, n3, c3, s4, A4, n4, c4, rfl, hbl2, fb⟩ := H2.out.at_ k y hy
      have HX := Lib.hid fun w' hb => fa.cells (w' := w') hbl hb
      have HY := Lib.hid fun w' hb => fb.cells (w' := w') hbl2 hb
      have HFX := Lib.hid fa.r
      have HFY := Lib.hid fb.r
      have HX1 := Lib.hid hx
      have HY1 := Lib.hid hy
      clear hx hy fa fb
      have zk : (0 : Int) ≤ (k : Int) := by omega
      have zn : (k : Int) < (n : Int) := by omega
      have HK : Hid (∀ w', Below w.heap.size w w' → (fun w' : World => w'.cell? ⟨b, o + k * 4, none⟩ = some (.bool s1) ∧ w'.cell? ⟨b, o + k * 4 + 1, none⟩ = some (.slice A1 n1 c1) ∧ w'.cell? ⟨b, o + k * 4 + 2, none⟩ = some (.bool s2) ∧ w'.cell? ⟨b, o + k * 4 + 3, none⟩ = some (.slice A2 n2 c2) ∧ w'.cell? ⟨b2, o2 + k * 4, none⟩ = some (.bool s3) ∧ w'.cell? ⟨b2, o2 + k * 4 + 1, none⟩ = some (.slice A3 n3 c3) ∧ w'.cell? ⟨b2, o2 + k * 4 + 2, none⟩ = some (.bool s4) ∧ w'.cell? ⟨b2, o2 + k * 4 + 3, none⟩ = some (.slice A4 n4 c4)) w') := Lib.hid fun w' hb => ⟨(HX.out _ hb).1, (HX.out _ hb).2.1, (HX.out _ hb).2.2.1, (HX.out _ hb).2.2.2, HY.out _ hb⟩
      by_cases hle : y ≤ x
      · obtain ⟨CC, hCC, rC⟩ : ∃ C : Int, cmpI (x - y).num 0 = C ∧ ¬ C < (0 : Int) := by
         rw [cmpQ_num]
         refine ⟨_, rfl, ?_⟩
         rcases cmpQ_cases x y with ⟨h1, e⟩ | ⟨h1, e⟩ | ⟨h1, e⟩ <;> rw [e] <;> first | omega | (exfalso; grind)
        have HC := Lib.hid hCC
        have HLE := Lib.hid hle
        clear hCC hle
        go_upto_region 6 with fail
        have hC := HK.out _ HBd.out
        refine region_goes (n := 10) (fun w' : World => w'.cell? ⟨b, o + k * 4, none⟩ = some (.bool s1) ∧ w'.cell? ⟨b, o + k * 4 + 1, none⟩ = some (.slice A1 n1 c1) ∧ w'.cell? ⟨b, o + k * 4 + 2, none⟩ = some (.bool s2) ∧ w'.cell? ⟨b, o + k * 4 + 3, none⟩ = some (.slice A2 n2 c2) ∧ w'.cell? ⟨b2, o2 + k * 4, none⟩ = some (.bool s3) ∧ w'.cell? ⟨b2, o2 + k * 4 + 1, none⟩ = some (.slice A3 n3 c3) ∧ w'.cell? ⟨b2, o2 + k * 4 + 2, none⟩ = some (.bool s4) ∧ w'.cell? ⟨b2, o2 + k * 4 + 3, none⟩ = some (.slice A4 n4 c4)) [] (by kernel_rfl) rfl ?_
        refine gt8 0 [] (.slice (some ⟨b, o, none⟩) n c) hC ?_
        refine gt8 1 [] (.int .i64 (k : Int)) hC ?_
        refine gt8 2 [] (.pointer (some ⟨b, o + k * 4, none⟩)) hC ?_
        refine gt8 3 [] (.agg #[.bool s1, .slice A1 n1 c1, .bool s2, .slice A2 n2 c2]) hC ?_
        refine gt8 4 [] (.slice (some ⟨b2, o2, none⟩) n d) hC ?_
        refine gt8 5 [] (.int .i64 (k : Int)) hC ?_
        refine gt8 6 [] (.pointer (some ⟨b2, o2 + k * 4, none⟩)) hC ?_
        refine gt8 7 [] (.agg #[.bool s3, .slice A3 n3 c3, .bool s4, .slice A4 n4 c4]) hC ?_
        refine gc 8 ?_
        clear hC
        simp only [List.getElem_toArray, List.getElem_cons_succ, List.getElem_cons_zero, Act.put, List.setIfInBounds_toArray, List.set_cons_succ, List.set_cons_zero]
        go_wp2_with (go_at_call 41; go_loud (with_reducible refine (rcmpRH HFX.out HFY.out HBd.out HBd.out (by omega) (by omega) (by omega) HC.out).mono ?_; rintro e wm ⟨hb, rfl⟩; have HBm := Lib.hid (below_to HBd.out hb HBd.out.size); clear hb))
        have hC := HK.out _ HBm.out
        refine behind_ok ⟨hC, ?_⟩
        refine gt8 9 [] (.bool false) hC ?_
        refine goes_done (by kernel_rfl) ?_
        simp only [List.getElem_toArray, List.getElem_cons_succ, List.getElem_cons_zero, Act.put, List.setIfInBounds_toArray, List.set_cons_succ, List.set_cons_zero]
        go_wp2
        go_roundw
        case rel => exact ⟨k + 1, by omega, by go_num, HBm.out, Lib.hid fun i a b2 hi ha hb2 => by
         rcases Nat.lt_or_ge i k with h1 | h1
         · exact HT.out i a b2 h1 ha hb2
         · obtain rfl : i = k := by omega
           rw [HY1.out] at ha
           rw [HX1.out] at hb2
           obtain rfl := Option.some.inj ha
           obtain rfl := Option.some.inj hb2
           exact HLE.out⟩
        case measure => simp [intOf]; omega
      · obtain ⟨CC, hCC, rC⟩ : ∃ C : Int, cmpI (x - y).num 0 = C ∧ C < (0 : Int) := by
         rw [cmpQ_num]
         refine ⟨_, rfl, ?_⟩
         rcases cmpQ_cases x y with ⟨h1, e⟩ | ⟨h1, e⟩ | ⟨h1, e⟩ <;> rw [e] <;> first | omega | (exfalso; grind)
        have HC := Lib.hid hCC
        have HNO := Lib.hid (leL_no HY1.out HX1.out hle)
        clear hCC hle
        go_upto_region 6 with fail
        have hC := HK.out _ HBd.out
        refine region_goes (n := 10) (fun w' : World => w'.cell? ⟨b, o + k * 4, none⟩ = some (.bool s1) ∧ w'.cell? ⟨b, o + k * 4 + 1, none⟩ = some (.slice A1 n1 c1) ∧ w'.cell? ⟨b, o + k * 4 + 2, none⟩ = some (.bool s2) ∧ w'.cell? ⟨b, o + k * 4 + 3, none⟩ = some (.slice A2 n2 c2) ∧ w'.cell? ⟨b2, o2 + k * 4, none⟩ = some (.bool s3) ∧ w'.cell? ⟨b2, o2 + k * 4 + 1, none⟩ = some (.slice A3 n3 c3) ∧ w'.cell? ⟨b2, o2 + k * 4 + 2, none⟩ = some (.bool s4) ∧ w'.cell? ⟨b2, o2 + k * 4 + 3, none⟩ = some (.slice A4 n4 c4)) [] (by kernel_rfl) rfl ?_
        refine gt8 0 [] (.slice (some ⟨b, o, none⟩) n c) hC ?_
        refine gt8 1 [] (.int .i64 (k : Int)) hC ?_
        refine gt8 2 [] (.pointer (some ⟨b, o + k * 4, none⟩)) hC ?_
        refine gt8 3 [] (.agg #[.bool s1, .slice A1 n1 c1, .bool s2, .slice A2 n2 c2]) hC ?_
        refine gt8 4 [] (.slice (some ⟨b2, o2, none⟩) n d) hC ?_
        refine gt8 5 [] (.int .i64 (k : Int)) hC ?_
        refine gt8 6 [] (.pointer (some ⟨b2, o2 + k * 4, none⟩)) hC ?_
        refine gt8 7 [] (.agg #[.bool s3, .slice A3 n3 c3, .bool s4, .slice A4 n4 c4]) hC ?_
        refine gc 8 ?_
        clear hC
        simp only [List.getElem_toArray, List.getElem_cons_succ, List.getElem_cons_zero, Act.put, List.setIfInBounds_toArray, List.set_cons_succ, List.set_cons_zero]
        go_wp2_with (go_at_call 41; go_loud (with_reducible refine (rcmpRH HFX.out HFY.out HBd.out HBd.out (by omega) (by omega) (by omega) HC.out).mono ?_; rintro e wm ⟨hb, rfl⟩; have HBm := Lib.hid (below_to HBd.out hb HBd.out.size); clear hb))
        have hC := HK.out _ HBm.out
        refine behind_ok ⟨hC, ?_⟩
        refine gt8 9 [] (.bool true) hC ?_
        refine goes_done (by kernel_rfl) ?_
        simp only [List.getElem_toArray, List.getElem_cons_succ, List.getElem_cons_zero, Act.put, List.setIfInBounds_toArray, List.set_cons_succ, List.set_cons_zero]
        go_wp2
        go_ret
        exact ⟨HBm.out, by rw [← HE.out, HNO.out]; rfl⟩
    · obtain rfl : n = k := by omega
      have HOK : Hid (leL Y X = true) := Lib.hid (leL_of fun i a b ha hb => HT.out i a b (by rw [← HL1.out]; exact (List.getElem?_eq_some_iff.1 hb).1) ha hb)
      go_wp2
      go_ret
      exact ⟨HB.out, by rw [← HE.out, HOK.out]; rfl⟩
 · have r1 : ¬ ((n : Int) = (m : Int)) := by omega
   rw [decide_eq_false q, Bool.false_and]
   clear q
   go_enter Tryz.func87, Tryz.ntmps87
   go_wp2
   go_ret
   exact ⟨Below.refl _ _, rfl⟩
end Go.Proofs.YthlfhfkfjefidaaGreat
/- Lists of fractions, the reference: zeros, Times, Before, Possible. -/
namespace Go.Proofs.YthlfhfkfjefidaaGreat
open Go Go.RowKit
theorem zer_snoc (k : Nat) : zer k ++ [0] = zer (k + 1) := by
 unfold zer
 rw [List.replicate_succ']
theorem zer_len (k : Nat) : (zer k).length = k := List.length_replicate
set_option maxRecDepth 100000 in
set_option maxHeartbeats 1600000 in
theorem rzeros_any (n : Nat) (hn : n ≤ 1000) (w : World) : Calls Tryz.prog 88 #[.int .i64 (n : Int)] w (ListOut (zer n) n 6 w) := by
 go_enter Tryz.func88, Tryz.ntmps88
 go_wp2
 go_loopw [3, 4] (fun v3 v4 wr => ∃ (k : Nat), k ≤ n ∧ v4 = .int .i64 (k : Int) ∧ Below w.heap.size w wr ∧ OwnR wr w.heap.size v3 (zer k) 6) (fun _ v4 _ => n - (intOf v4).toNat)
 case atStart => exact ⟨0, Nat.zero_le _, rfl, Below.refl _ _, OwnR.nil_ _ _ _⟩
 case round =>
  obtain ⟨k, hk, rfl, hb, ho⟩ := hrel
  have HB := Lib.hid hb
  have HO := Lib.hid ho
  clear hb ho
  rcases Nat.lt_or_ge k n with hlt | hge
  · have zn : (k : Int) < (n : Int) := by omega
    go_wp2_with (first
     | (go_at_call 29; go_loud (refine (rwhole0 _).mono ?_; rintro e w2 ⟨hb, t1, D1, m1, d1, t2, D2, m2, d2, rfl, hq⟩; have HB2 := Lib.hid (below_to HB.out hb HB.out.size); have HO2 := Lib.hid (HO.out.later hb); have HQ2 := Lib.hid hq.soft; clear hb hq))
     | (at_builtin; go_loud (refine app_rat (base := w.heap.size) (L := zer k) (K := 6) (x := 0) (HO2.out.later (below_alloc1 _ _)) rfl _ _ rfl rfl w2.heap.size rfl (Bk.alloc_ _ _ _) (HQ2.out.aft (below_alloc1 _ _)) (by rw [zer_len]; omega) (Nat.le_trans HB2.out.size (below_alloc1 _ _).size) ?_; intro v' w3 ho hb; rw [zer_snoc] at ho; have HO3 := Lib.hid ho; have HB3 : Hid (Below w.heap.size w w3) := Lib.hid ((HB2.out.trans ((below_alloc1 _ _).mono HB2.out.size)).trans hb); clear ho hb)))
    go_roundw
    case rel => exact ⟨k + 1, by omega, by go_num, HB3.out, HO3.out⟩
    case measure => simp [intOf]; omega
  · obtain rfl : n = k := by omega
    obtain ⟨A, c, rfl, hr⟩ := HO.out.rts
    rw [zer_len] at hr
    have HR := Lib.hid hr
    clear hr
    go_wp2
    go_ret
    exact ⟨HB.out, A, c, by rw [zer_len]; rfl, HR.out⟩
theorem times_snoc {M : List (List Rat)} {X r : List Rat} {k : Nat} (h : M[k]? = some r) : timesL (M.take k) X ++ [dotQ r X] = timesL (M.take (k + 1)) X := by
 obtain ⟨hk, e⟩ := List.getElem?_eq_some_iff.1 h
 rw [List.take_succ_eq_append_getElem hk, e]
 simp [timesL]
theorem times_len (M : List (List Rat)) (X : List Rat) : (timesL M X).length = M.length := List.length_map ..
set_option maxRecDepth 100000 in
set_option maxHeartbeats 1600000 in
theorem rtimes_any {w : World} {A xA : Option Addr} {n c xn xc : Nat} {S : List SL} {M : List (List Rat)} {X : List Rat} (h : Mt w A n c S) (hq : MtQ w S M 3) (hw : ∀ (i : Nat) (s : SL), S[i]? = some s → s.m = xn) (hx : Rts w xA xn xc X 3) (hx4 : xn ≤ 4) (hn : n ≤ 1000) :
 Calls Tryz.prog 118 #[.slice A n c, .slice xA xn xc] w (ListOut (timesL M X) n (6 + xn * 7) w) := by
 have hcap := h.cap
 have hmax := h.max
 have HL := Lib.hid h.len
 have HH := Lib.hid h
 have HM := Lib.hid hq
 have HW := Lib.hid hw
 have HX := Lib.hid hx
 clear h hq hw hx
 go_enter Tryz.func118, Tryz.ntmps118
 go_wp2
 go_loopw [5, 6] (fun v5 v6 wr => ∃ (k : Nat), k ≤ n ∧ v6 = .int .i64 (k : Int) ∧ Below w.heap.size w wr ∧ OwnR wr w.heap.size v5 (timesL (M.take k) X) (6 + xn * 7)) (fun _ v6 _ => n - (intOf v6).toNat)
 case atStart => exact ⟨0, Nat.zero_le _, rfl, Below.refl _ _, OwnR.nil_ _ _ _⟩
 case round =>
  obtain ⟨k, hk, rfl, hb, ho⟩ := hrel
  have HB := Lib.hid hb
  have HO := Lib.hid ho
  clear hb ho
  rcases Nat.lt_or_ge k n with hlt | hge
  · obtain ⟨s, hs⟩ : ∃ s, S[k]? = some s := ⟨S[k]'(by rw [HL.out]; exact hlt), List.getElem?_eq_getElem _⟩
    obtain ⟨r, hr⟩ : ∃ r, M[k]? = some r := ⟨M[k]'(by rw [HM.out.len, HL.out]; exact hlt), List.getElem?_eq_getElem _⟩
    have hrt := HM.out.at_ k s r hs hr
    have hsm := HW.out k s hs
    rw [hsm] at hrt
    obtain ⟨b, o, rfl, hbl, hc⟩ := HH.out.at_ k s hs
    rw [hsm] at hc
    have y9 := (HB.out.cell (p := ⟨b, o + k, none⟩) hbl).trans hc
    have HRT := Lib.hid hrt
    have HSN := Lib.hid (times_snoc (X := X) hr)
    have HLN : Hid ((timesL (M.take k) X).length ≤ 30000) := Lib.hid (by rw [times_len, List.length_take]; omega)
    clear hs hr hrt hsm hc
    have zk : (0 : Int) ≤ (k : Int) := by omega
    have zn : (k : Int) < (n : Int) := by omega
    go_wp2_with (first
     | (go_at_call 90; go_loud (refine (rdot_any (HRT.out.later HB.out) (HX.out.later HB.out) hx4).mono ?_; rintro e w2 ⟨hb, t1, D1, m1, d1, t2, D2, m2, d2, rfl, hq⟩; have HB2 := Lib.hid (below_to HB.out hb HB.out.size); have HO2 := Lib.hid (HO.out.later hb); have HQ2 := Lib.hid hq; clear hb hq))
     | (at_builtin; go_loud (refine app_rat (base := w.heap.size) (L := timesL (M.take k) X) (K := 6 + xn * 7) (x := dotQ r X) (HO2.out.later (below_alloc1 _ _)) rfl _ _ rfl rfl w2.heap.size rfl (Bk.alloc_ _ _ _) (HQ2.out.aft (below_alloc1 _ _)) HLN.out (Nat.le_trans HB2.out.size (below_alloc1 _ _).size) ?_; intro v' w3 ho hb; rw [HSN.out] at ho; have HO3 := Lib.hid ho; have HB3 : Hid (Below w.heap.size w w3) := Lib.hid ((HB2.out.trans ((below_alloc1 _ _).mono HB2.out.size)).trans hb); clear ho hb)))
    go_roundw
    case rel => exact ⟨k + 1, by omega, by go_num, HB3.out, HO3.out⟩
    case measure => simp [intOf]; omega
  · obtain rfl : n = k := by omega
    obtain ⟨A', c', rfl, hr⟩ := HO.out.rts
    have e1 : M.take n = M := List.take_of_length_le (by rw [HM.out.len, HL.out]; exact Nat.le_refl _)
    have e2 : (timesL M X).length = n := by rw [times_len, HM.out.len, HL.out]
    rw [e1, e2] at hr
    have HR := Lib.hid hr
    have HE : Hid ((timesL (M.take n) X).length = n) := Lib.hid (by rw [e1, e2])
    clear hr e1 e2
    go_wp2
    go_ret
    exact ⟨HB.out, A', c', congrArg (fun q => Ending.returned (.slice A' q c')) HE.out, HR.out⟩
end Go.Proofs.YthlfhfkfjefidaaGreat
/- Lists of fractions, the reference: Before. -/
namespace Go.Proofs.YthlfhfkfjefidaaGreat
open Go Go.RowKit
theorem bef_snoc (Y : List Rat) (M : List (List Rat)) (j : Nat) : befL Y M j ++ [dotQ Y (colL M j)] = befL Y M (j + 1) := by
 unfold befL
 rw [List.range_succ, List.map_append]
 rfl
theorem bef_len (Y : List Rat) (M : List (List Rat)) (j : Nat) : (befL Y M j).length = j := by
 unfold befL
 rw [List.length_map, List.length_range]
theorem nou_quad {a b : Bool} {A B : Option Addr} {n c m e : Nat} : nou #[.bool a, .slice A n c, .bool b, .slice B m e] := fun k z h => by
 match k with
 | 0 => simp at h
 | 1 => simp at h
 | 2 => simp at h
 | 3 => simp at h
 | k + 4 => simp at h
theorem OwnR.below_ {w : World} {base K : Nat} {v : Value} {L : List Rat} (h : OwnR w base v L K) : ∀ q n cap, v = .slice (some ⟨q, 0, none⟩) n cap → q < w.heap.size := fun q n cap e => by
 rcases h.ex with ⟨h1, -⟩ | ⟨g, cap', cur, h1, h2, h3, h4, h5, h6, h7⟩
 · rw [h1] at e
   cases e
 · rw [h1] at e
   simp only [Value.slice.injEq, Option.some.injEq, Addr.mk.injEq, and_true] at e
   rw [← e.1]
   exact h3.lt
theorem OwnR.chg {w w' : World} {base K g t : Nat} {cs : Array Value} {v : Value} {L : List Rat} (h : OwnR w base v L K) (hb : Bk w g t cs) (hn : nou cs) (hc : Chg g w w') (hne : ∀ q n cap, v = .slice (some ⟨q, 0, none⟩) n cap → q ≠ g) : OwnR w' base v L K := by
 rcases h.ex with h1 | ⟨q, cap, cur, h1, h2, h3, h4, h5, h6, h7⟩
 · exact ⟨.inl h1⟩
 · refine ⟨.inr ⟨q, cap, cur, h1, h2, hc.bk _ _ _ (hne _ _ _ h1) h3, h4, h5, h6, h7.1, fun k x hk => ?_⟩⟩
   obtain ⟨t1, B1, m1, d1, t2, B2, m2, d2, e1, e2, e3, e4, hi⟩ := h7.2 k x hk
   exact ⟨t1, B1, m1, d1, t2, B2, m2, d2, e1, e2, e3, e4, hi.chg hb hn hc⟩
set_option maxRecDepth 100000 in
set_option maxHeartbeats 8000000 in
theorem rbefore_any {w : World} {A yA : Option Addr} {n c yc k : Nat} {S : List SL} {M : List (List Rat)} {Y : List Rat} (h : Mt w A n c S) (hq : MtQ w S M 3) (hw : ∀ (i : Nat) (s : SL), S[i]? = some s → s.m = k) (hy : Rts w yA n yc Y 3) (hn : n ≤ 4) (hk : k ≤ 1000) :
 Calls Tryz.prog 89 #[.slice yA n yc, .slice A n c, .int .i64 (k : Int)] w (ListOut (befL Y M k) k (6 + n * 7) w) := by
 have hcap := h.cap
 have hmax := h.max
 have hcapy := hy.cap
 have hmaxy := hy.max
 have HL := Lib.hid h.len
 have HLY := Lib.hid hy.len
 have HH := Lib.hid h
 have HM := Lib.hid hq
 have HW := Lib.hid hw
 have HYY := Lib.hid hy
 clear h hq hw hy
 go_enter Tryz.func89, Tryz.ntmps89
 go_wp2
 go_loopw [7, 8, 9, 10] (fun v7 v8 _ _ wr => ∃ (j : Nat) (v : Value), j ≤ k ∧ v8 = .int .i64 (j : Int) ∧ v = v7 ∧ Below w.heap.size w wr ∧ OwnR wr w.heap.size v (befL Y M j) (6 + n * 7)) (fun _ v8 _ _ _ => k - (intOf v8).toNat)
 case atStart => exact ⟨0, _, Nat.zero_le _, rfl, rfl, Below.refl _ _, OwnR.nil_ _ _ _⟩
 case round =>
  obtain ⟨j, v, hj, rfl, hv, hb, ho⟩ := hrel
  subst hv
  have HB := Lib.hid hb
  have HO := Lib.hid ho
  have HNE := Lib.hid ho.below_
  clear hb ho
  rcases Nat.lt_or_ge j k with hlt | hge
  · have zj : (j : Int) < (k : Int) := by omega
    go_upto_region 6 with (go_at_call 29; go_loud (refine (rwhole0 _).mono ?_; rintro e w1 ⟨hb, t1, D1, m1, d1, t2, D2, m2, d2, rfl, hq⟩; have HB1 := Lib.hid (below_to HB.out hb HB.out.size); have HO1 := Lib.hid (HO.out.later hb); have HSZ := Lib.hid hb.size; have HQ1 := Lib.hid hq; clear hb hq))
    obtain ⟨gs, hgs⟩ : ∃ x, w1.heap.size = x := ⟨_, rfl⟩
    have lgs : w.heap.size ≤ gs := by have := HB1.out.size; omega
    have lgs2 : wr.heap.size ≤ gs := by have := HSZ.out; omega
    generalize hW : (World.alloc _ _) = wW
    have hb3 : Below w1.heap.size w1 wW := by rw [← hW]; exact below_alloc1 _ _
    have HS2 : Hid (Bk wW gs 41 #[.bool t1, .slice D1 m1 d1, .bool t2, .slice D2 m2 d2]) := Lib.hid (by rw [← hW]; exact Bk.at_ hgs)
    try rw [hgs]
    clear hW hgs
    have HB2 := Lib.hid (below_to HB1.out hb3 HB1.out.size)
    have HO2 := Lib.hid (HO1.out.later hb3)
    have HR2 := Lib.hid (HQ1.out.aft hb3).soft
    clear hb3
    go_wp2
    go_loopw [10] (fun v10 wr => ∃ (i : Nat) (t1 : Bool) (D1 : Option Addr) (m1 d1 : Nat) (t2 : Bool) (D2 : Option Addr) (m2 d2 : Nat), i ≤ n ∧ v10 = .int .i64 (i : Int) ∧ Below w.heap.size w wr ∧ OwnR wr w.heap.size v (befL Y M j) (6 + n * 7) ∧ Bk wr gs 41 #[.bool t1, .slice D1 m1 d1, .bool t2, .slice D2 m2 d2] ∧ RatH wr t1 D1 m1 d1 t2 D2 m2 d2 (dotQ (Y.take i) ((colL M j).take i)) (6 + i * 7) false) (fun v10 _ => n - (intOf v10).toNat)
    case atStart => exact ⟨0, t1, D1, m1, d1, t2, D2, m2, d2, Nat.zero_le _, rfl, HB2.out, HO2.out, HS2.out, by simpa [dotQ] using HR2.out⟩
    case round =>
     clear HB2 HO2 HS2 HR2
     obtain ⟨i, t1, D1, m1, d1, t2, D2, m2, d2, hi, rfl, hb, ho, hs, hr⟩ := hrel
     obtain ⟨wr2, hwr2⟩ : ∃ z, z = wr := ⟨_, rfl⟩
     subst hwr2
     have HBd := Lib.hid (Below.drew hb)
     have HOd := Lib.hid (ho.later (Below.drew (Below.refl _ _)))
     have HSd : Hid (Bk (World.drew wr2) gs 41 #[.bool t1, .slice D1 m1 d1, .bool t2, .slice D2 m2 d2]) := Lib.hid hs
     have HRd := Lib.hid (hr.aft (Below.drew (Below.refl _ _)))
     have HBi := Lib.hid hb
     have HOi := Lib.hid ho
     have HSi := Lib.hid hs
     have HRi := Lib.hid hr
     clear hb ho hs hr
     rcases Nat.lt_or_ge i n with hlt2 | hge2
     · clear HBi HOi HSi HRi
       obtain ⟨x, hx⟩ : ∃ x, Y[i]? = some x := ⟨Y[i]'(by rw [HLY.out]; exact hlt2), List.getElem?_eq_getElem _⟩
       obtain ⟨s, hs⟩ : ∃ s, S[i]? = some s := ⟨S[i]'(by rw [HL.out]; exact hlt2), List.getElem?_eq_getElem _⟩
       obtain ⟨r, hr⟩ : ∃ r, M[i]? = some r := ⟨M[i]'(by rw [HM.out.len, HL.out]; exact hlt2), List.getElem?_eq_getElem _⟩
       have hrt := HM.out.at_ i s r hs hr
       have hsm := HW.out i s hs
       obtain ⟨y, hy⟩ : ∃ y, r[j]? = some y := ⟨r[j]'(by rw [hrt.len, hsm]; exact hlt), List.getElem?_eq_getElem _⟩
       have HSTEP := Lib.hid (dotQ_take hx (colL_at hr hy))
       obtain ⟨b, o, s1, A1, n1, c1, s2, A2, n2, c2, rfl, hbl, fa⟩ := HYY.out.at_ i x hx
       obtain ⟨b2, o2, s3, A3, n3, c3, s4, A4, n4, c4, e2, hbl2, fb⟩ := hrt.at_ j y hy
       obtain ⟨b5, o5, rfl, hbl5, hc5⟩ := HH.out.at_ i s hs
       rw [e2, hsm] at hc5
       have hcs := hrt.cap
       have hms := hrt.max
       rw [hsm] at hcs
       have HX := Lib.hid fun w' hb => fa.cells (w' := w') hbl hb
       have HY := Lib.hid fun w' hb => fb.cells (w' := w') hbl2 hb
       have HHD : Hid (∀ w', Below w.heap.size w w' → w'.cell? ⟨b5, o5 + i, none⟩ = some (.slice (some ⟨b2, o2, none⟩) k s.e)) := Lib.hid fun w' hb => (hb.cell (p := ⟨b5, o5 + i, none⟩) hbl5).trans hc5
       have HFX := Lib.hid fa.r
       have HFY := Lib.hid fb.r
       clear hx hs hr hy fa fb hrt hsm hc5 e2
       have zk : (0 : Int) ≤ (i : Int) := by omega
       have zn : (i : Int) < (n : Int) := by omega
       have zj0 : (0 : Int) ≤ (j : Int) := by omega
       go_upto_region 9 with fail
       have hC : (fun w' : World => w'.cell? ⟨gs, 0, none⟩ = some (.bool t1) ∧ w'.cell? ⟨gs, 1, none⟩ = some (.slice D1 m1 d1) ∧ w'.cell? ⟨gs, 2, none⟩ = some (.bool t2) ∧ w'.cell? ⟨gs, 3, none⟩ = some (.slice D2 m2 d2) ∧ w'.cell? ⟨b, o + i * 4, none⟩ = some (.bool s1) ∧ w'.cell? ⟨b, o + i * 4 + 1, none⟩ = some (.slice A1 n1 c1) ∧ w'.cell? ⟨b, o + i * 4 + 2, none⟩ = some (.bool s2) ∧ w'.cell? ⟨b, o + i * 4 + 3, none⟩ = some (.slice A2 n2 c2) ∧ w'.cell? ⟨b2, o2 + j * 4, none⟩ = some (.bool s3) ∧ w'.cell? ⟨b2, o2 + j * 4 + 1, none⟩ = some (.slice A3 n3 c3) ∧ w'.cell? ⟨b2, o2 + j * 4 + 2, none⟩ = some (.bool s4) ∧ w'.cell? ⟨b2, o2 + j * 4 + 3, none⟩ = some (.slice A4 n4 c4) ∧ w'.cell? ⟨b5, o5 + i, none⟩ = some (.slice (some ⟨b2, o2, none⟩) k s.e)) wr2.drew := ⟨HSd.out.four4.1, HSd.out.four4.2.1, HSd.out.four4.2.2.1, HSd.out.four4.2.2.2, (HX.out _ HBd.out).1, (HX.out _ HBd.out).2.1, (HX.out _ HBd.out).2.2.1, (HX.out _ HBd.out).2.2.2, (HY.out _ HBd.out).1, (HY.out _ HBd.out).2.1, (HY.out _ HBd.out).2.2.1, (HY.out _ HBd.out).2.2.2, HHD.out _ HBd.out⟩
       refine region_goes (n := 15) (fun w' : World => w'.cell? ⟨gs, 0, none⟩ = some (.bool t1) ∧ w'.cell? ⟨gs, 1, none⟩ = some (.slice D1 m1 d1) ∧ w'.cell? ⟨gs, 2, none⟩ = some (.bool t2) ∧ w'.cell? ⟨gs, 3, none⟩ = some (.slice D2 m2 d2) ∧ w'.cell? ⟨b, o + i * 4, none⟩ = some (.bool s1) ∧ w'.cell? ⟨b, o + i * 4 + 1, none⟩ = some (.slice A1 n1 c1) ∧ w'.cell? ⟨b, o + i * 4 + 2, none⟩ = some (.bool s2) ∧ w'.cell? ⟨b, o + i * 4 + 3, none⟩ = some (.slice A2 n2 c2) ∧ w'.cell? ⟨b2, o2 + j * 4, none⟩ = some (.bool s3) ∧ w'.cell? ⟨b2, o2 + j * 4 + 1, none⟩ = some (.slice A3 n3 c3) ∧ w'.cell? ⟨b2, o2 + j * 4 + 2, none⟩ = some (.bool s4) ∧ w'.cell? ⟨b2, o2 + j * 4 + 3, none⟩ = some (.slice A4 n4 c4) ∧ w'.cell? ⟨b5, o5 + i, none⟩ = some (.slice (some ⟨b2, o2, none⟩) k s.e)) [14] (by kernel_rfl) rfl ?_
       refine gt13 0 [13, 14] (.agg #[.bool t1, .slice D1 m1 d1, .bool t2, .slice D2 m2 d2]) hC ?_
       refine gt13 1 [3, 4, 12, 13, 14] (.slice (some ⟨b, o, none⟩) n yc) hC ?_
       refine gt13 2 [3, 4, 12, 13, 14] (.int .i64 (i : Int)) hC ?_
       refine gt13 3 [4, 12, 13, 14] (.pointer (some ⟨b, o + i * 4, none⟩)) hC ?_
       refine gt13 4 [12, 13, 14] (.agg #[.bool s1, .slice A1 n1 c1, .bool s2, .slice A2 n2 c2]) hC ?_
       refine gt13 5 [7, 8, 10, 11, 12, 13, 14] (.slice (some ⟨b5, o5, none⟩) n c) hC ?_
       refine gt13 6 [7, 8, 10, 11, 12, 13, 14] (.int .i64 (i : Int)) hC ?_
       refine gt13 7 [8, 10, 11, 12, 13, 14] (.pointer (some ⟨b5, o5 + i, none⟩)) hC ?_
       refine gt13 8 [10, 11, 12, 13, 14] (.slice (some ⟨b2, o2, none⟩) k s.e) hC ?_
       refine gt13 9 [10, 11, 12, 13, 14] (.int .i64 (j : Int)) hC ?_
       refine gt13 10 [11, 12, 13, 14] (.pointer (some ⟨b2, o2 + j * 4, none⟩)) hC ?_
       refine gt13 11 [12, 13, 14] (.agg #[.bool s3, .slice A3 n3 c3, .bool s4, .slice A4 n4 c4]) hC ?_
       refine gc 12 ?_
       clear hC
       simp only [List.getElem_toArray, List.getElem_cons_succ, List.getElem_cons_zero, Act.put, List.setIfInBounds_toArray, List.set_cons_succ, List.set_cons_zero]
       go_wp2_with (go_at_call 37; go_loud (with_reducible refine (rmulH HFX.out HFY.out HBd.out HBd.out (by omega) (by omega) (by omega)).mono ?_; rintro e2 wm ⟨hb, s5, A5, n5, c5, s6, A6, n6, c6, rfl, hq⟩; have HBm := Lib.hid (below_to HBd.out hb HBd.out.size); have HSm := Lib.hid (HSd.out.below hb HSd.out.lt); have HOm := Lib.hid (HOd.out.later hb); have HRm := Lib.hid (HRd.out.aft hb); have HQ := Lib.hid hq; clear hb hq))
       have hC : (fun w' : World => w'.cell? ⟨gs, 0, none⟩ = some (.bool t1) ∧ w'.cell? ⟨gs, 1, none⟩ = some (.slice D1 m1 d1) ∧ w'.cell? ⟨gs, 2, none⟩ = some (.bool t2) ∧ w'.cell? ⟨gs, 3, none⟩ = some (.slice D2 m2 d2) ∧ w'.cell? ⟨b, o + i * 4, none⟩ = some (.bool s1) ∧ w'.cell? ⟨b, o + i * 4 + 1, none⟩ = some (.slice A1 n1 c1) ∧ w'.cell? ⟨b, o + i * 4 + 2, none⟩ = some (.bool s2) ∧ w'.cell? ⟨b, o + i * 4 + 3, none⟩ = some (.slice A2 n2 c2) ∧ w'.cell? ⟨b2, o2 + j * 4, none⟩ = some (.bool s3) ∧ w'.cell? ⟨b2, o2 + j * 4 + 1, none⟩ = some (.slice A3 n3 c3) ∧ w'.cell? ⟨b2, o2 + j * 4 + 2, none⟩ = some (.bool s4) ∧ w'.cell? ⟨b2, o2 + j * 4 + 3, none⟩ = some (.slice A4 n4 c4) ∧ w'.cell? ⟨b5, o5 + i, none⟩ = some (.slice (some ⟨b2, o2, none⟩) k s.e)) wm := ⟨HSm.out.four4.1, HSm.out.four4.2.1, HSm.out.four4.2.2.1, HSm.out.four4.2.2.2, (HX.out _ HBm.out).1, (HX.out _ HBm.out).2.1, (HX.out _ HBm.out).2.2.1, (HX.out _ HBm.out).2.2.2, (HY.out _ HBm.out).1, (HY.out _ HBm.out).2.1, (HY.out _ HBm.out).2.2.1, (HY.out _ HBm.out).2.2.2, HHD.out _ HBm.out⟩
       refine behind_ok ⟨hC, ?_⟩
       refine gc 13 ?_
       clear hC
       go_wp2_with (go_at_call 33; go_loud (with_reducible refine (raddH HRm.out HQ.out (Below.refl _ _) (Below.refl _ _) (by omega) (by omega) (by omega)).mono ?_; rintro e2 wa ⟨hb, s7, A7, n7, c7, s8, A8, n8, c8, rfl, hq⟩; have HBa := Lib.hid (below_to HBm.out hb HBm.out.size); have HSa := Lib.hid (HSm.out.below hb HSm.out.lt); have HOa := Lib.hid (HOm.out.later hb); have HRa := Lib.hid (HRm.out.aft hb); have HQA := Lib.hid hq; clear hb hq))
       have hC : (fun w' : World => w'.cell? ⟨gs, 0, none⟩ = some (.bool t1) ∧ w'.cell? ⟨gs, 1, none⟩ = some (.slice D1 m1 d1) ∧ w'.cell? ⟨gs, 2, none⟩ = some (.bool t2) ∧ w'.cell? ⟨gs, 3, none⟩ = some (.slice D2 m2 d2) ∧ w'.cell? ⟨b, o + i * 4, none⟩ = some (.bool s1) ∧ w'.cell? ⟨b, o + i * 4 + 1, none⟩ = some (.slice A1 n1 c1) ∧ w'.cell? ⟨b, o + i * 4 + 2, none⟩ = some (.bool s2) ∧ w'.cell? ⟨b, o + i * 4 + 3, none⟩ = some (.slice A2 n2 c2) ∧ w'.cell? ⟨b2, o2 + j * 4, none⟩ = some (.bool s3) ∧ w'.cell? ⟨b2, o2 + j * 4 + 1, none⟩ = some (.slice A3 n3 c3) ∧ w'.cell? ⟨b2, o2 + j * 4 + 2, none⟩ = some (.bool s4) ∧ w'.cell? ⟨b2, o2 + j * 4 + 3, none⟩ = some (.slice A4 n4 c4) ∧ w'.cell? ⟨b5, o5 + i, none⟩ = some (.slice (some ⟨b2, o2, none⟩) k s.e)) wa := ⟨HSa.out.four4.1, HSa.out.four4.2.1, HSa.out.four4.2.2.1, HSa.out.four4.2.2.2, (HX.out _ HBa.out).1, (HX.out _ HBa.out).2.1, (HX.out _ HBa.out).2.2.1, (HX.out _ HBa.out).2.2.2, (HY.out _ HBa.out).1, (HY.out _ HBa.out).2.1, (HY.out _ HBa.out).2.2.1, (HY.out _ HBa.out).2.2.2, HHD.out _ HBa.out⟩
       refine behind_ok ⟨hC, ?_⟩
       clear hC
       refine goes_last (i := 14) rfl (by kernel_rfl) (by kernel_rfl) ?_
       obtain ⟨q0, q1, q2, q3⟩ := HSa.out.four4
       have f0 := HSa.out.frozen 0
       have f1 := HSa.out.frozen 1
       have f2 := HSa.out.frozen 2
       have f3 := HSa.out.frozen 3
       go_wp2_with fail
       obtain ⟨wV, hV, hbV, hsV, hqV, hkV, -⟩ := stored_over HBa.out (show w.heap.size ≤ gs by omega) HSa.out HQA.out.soft
       have hoV := HOa.out.chg HSa.out nou_quad (((((Chg.refl gs wa).set 0 (.bool s7)).set 1 (.slice A7 n7 c7)).set 2 (.bool s8)).set 3 (.slice A8 n8 c8)) (fun q n5 cap e5 => Nat.ne_of_lt (Nat.lt_of_lt_of_le (HNE.out q n5 cap e5) lgs2))
       rw [← hV] at hoV ⊢
       have HBV := Lib.hid hbV
       have HSV := Lib.hid hsV
       have HQV := Lib.hid hqV
       have HOV := Lib.hid hoV
       clear hV hbV hsV hqV hkV hoV q0 q1 q2 q3 f0 f1 f2 f3
       refine behind_ok ?_
       refine goes_done (by kernel_rfl) ?_
       go_wp2
       go_roundw
       case rel => exact ⟨i + 1, s7, A7, n7, c7, s8, A8, n8, c8, by omega, by go_num, HBV.out, HOV.out, HSV.out, by
        rw [HSTEP.out, show 6 + (i + 1) * 7 = 6 + i * 7 + (3 + 3) + 1 by omega]
        exact HQV.out⟩
       case measure => simp [intOf]; omega
     · clear HBd HOd HSd HRd
       obtain rfl : n = i := by omega
       have hend : dotQ (Y.take n) ((colL M j).take n) = dotQ Y (colL M j) := by
        have e1 := HLY.out
        have e2 : (colL M j).length = n := by unfold colL; rw [List.length_map, HM.out.len, HL.out]
        rw [List.take_of_length_le (by omega), List.take_of_length_le (by omega)]
       rw [hend] at HRi
       clear hend
       obtain ⟨x0, x1, x2, x3⟩ := HSi.out.four4
       have HSN := Lib.hid (bef_snoc Y M j)
       have HLN : Hid ((befL Y M j).length ≤ 30000) := Lib.hid (by rw [bef_len]; omega)
       go_wp2_with (at_builtin; go_loud (refine app_rat (base := w.heap.size) (L := befL Y M j) (K := 6 + n * 7) (x := dotQ Y (colL M j)) (HOi.out.later (below_alloc1 _ _)) rfl _ _ rfl rfl wr2.heap.size rfl (Bk.alloc_ _ _ _) (HRi.out.aft (below_alloc1 _ _)) HLN.out (Nat.le_trans HBi.out.size (below_alloc1 _ _).size) ?_; intro v' w3 ho hb; rw [HSN.out] at ho; have HO3 := Lib.hid ho; have HB3 : Hid (Below w.heap.size w w3) := Lib.hid ((HBi.out.trans ((below_alloc1 _ _).mono HBi.out.size)).trans hb); clear ho hb))
       go_roundw
       case rel => exact ⟨j + 1, _, by omega, by go_num, rfl, HB3.out, HO3.out⟩
       case measure => simp [intOf]; omega
  · obtain rfl : k = j := by omega
    obtain ⟨A', c', rfl, hr⟩ := HO.out.rts
    have HR := Lib.hid hr
    have HE : Hid ((befL Y M k).length = k) := Lib.hid (bef_len Y M k)
    clear hr
    go_wp2
    go_ret
    exact ⟨HB.out, A', c', congrArg (fun q => Ending.returned (.slice A' q c')) HE.out, by have h5 := HR.out; rwa [HE.out] at h5⟩
end Go.Proofs.YthlfhfkfjefidaaGreat
