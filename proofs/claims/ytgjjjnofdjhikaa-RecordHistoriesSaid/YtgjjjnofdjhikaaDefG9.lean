/- Several texts in one. -/
import Derived.Test.YtgjjjnofdjhikaaAgG9
import Derived.Test.YtgjjjnofdjhikaaTagG9
import Derived.Sort.OwnSortedInts
/- Chapter 9: the open defects of a platform, as an ascending list of numbers. No walk. -/
namespace Go.Proofs.Ytgjjjnofdjhikaa
open Go.RowKit Go.Maps

theorem int_asc_unique : ∀ {a b : List Int}, a.Pairwise (fun x y => x < y) → b.Pairwise (fun x y => x < y) → (∀ x, x ∈ a ↔ x ∈ b) → a = b
  | [], [], _, _, _ => rfl
  | [], y :: b, _, _, h => absurd ((h y).2 (List.mem_cons_self ..)) (by simp)
  | x :: a, [], _, _, h => absurd ((h x).1 (List.mem_cons_self ..)) (by simp)
  | x :: a, y :: b, ha, hb, h => by
    rw [List.pairwise_cons] at ha hb
    have e : x = y := by
      rcases List.mem_cons.1 ((h x).1 (List.mem_cons_self ..)) with e | e
      · exact e
      · rcases List.mem_cons.1 ((h y).2 (List.mem_cons_self ..)) with e2 | e2
        · exact e2.symm
        · have h1 := ha.1 y e2
          have h2 := hb.1 x e
          omega
    subst e
    congr 1
    refine int_asc_unique ha.2 hb.2 fun z => ?_
    constructor
    · intro hz
      rcases List.mem_cons.1 ((h z).1 (List.mem_cons_of_mem _ hz)) with e | e
      · subst e
        have := ha.1 z hz
        omega
      · exact e
    · intro hz
      rcases List.mem_cons.1 ((h z).2 (List.mem_cons_of_mem _ hz)) with e | e
      · subst e
        have := hb.1 z hz
        omega
      · exact e
theorem int_sort_asc {l : List Int} (hd : l.Nodup) : (l.mergeSort fun x y => decide (x ≤ y)).Pairwise fun x y => x < y := by
  have h1 := List.pairwise_mergeSort (le := fun x y : Int => decide (x ≤ y)) (fun a b c h1 h2 => by simp at *; omega) (fun a b => by simp; omega) l
  have h2 : (l.mergeSort fun x y => decide (x ≤ y)).Nodup := (List.mergeSort_perm l _).nodup_iff.2 hd
  refine List.Pairwise.imp₂ ?_ h1 h2
  intro a b h1 h2
  have : a ≤ b := by simpa using h1
  omega
/-- What the range over open defects has put down. -/
structure InvD (p : ByteArray) (f : Df → Option Bool) (lf : Df → Bool) (os : List Int) : Prop where
  nd : os.Nodup
  all : ∀ q, dfOk q → (f q).isSome = true → lf q = true ∨ q.2 ∈ os
  each : ∀ n ∈ os, dfOk (p, n) ∧ (f (p, n)).isSome = true ∧ lf (p, n) = false
theorem InvD.start (p : ByteArray) (f : Df → Option Bool) : InvD p f (fun q => (f q).isSome) [] :=
  ⟨List.nodup_nil, fun _ _ h => .inl h, fun n h => by simp at h⟩
theorem InvD.step {p : ByteArray} {f : Df → Option Bool} {lf : Df → Bool} {os : List Int} (h : InvD p f lf os) (hp : ∀ q, (f q).isSome = true → q.1 = p) {x : Df} (hx : dfOk x) (hl : lf x = true) (hf : (f x).isSome = true) :
    InvD p f (fun z => lf z && !decide (z = x)) (os ++ [x.2]) := by
  have hxp : x = (p, x.2) := by rw [← hp x hf]
  have hn : x.2 ∉ os := fun hm => by
    have := (h.each _ hm).2.2
    rw [← hxp, hl] at this
    cases this
  refine ⟨?_, fun q hq hs => ?_, fun n hm => ?_⟩
  · rw [List.nodup_append]
    refine ⟨h.nd, by simp, fun a ha b hb => ?_⟩
    rw [List.mem_singleton.1 hb]
    exact fun e => hn (e ▸ ha)
  · by_cases e : q = x
    · exact .inr (by rw [e]; simp)
    · rcases h.all q hq hs with h1 | h1
      · exact .inl (by simp [h1, e])
      · exact .inr (List.mem_append_left _ h1)
  · rcases List.mem_append.1 hm with hm | hm
    · obtain ⟨h1, h2, h3⟩ := h.each n hm
      exact ⟨h1, h2, by simp [h3]⟩
    · rw [List.mem_singleton.1 hm, ← hxp]
      exact ⟨hx, hf, by simp⟩
theorem InvD.end_ {p : ByteArray} {f : Df → Option Bool} {lf : Df → Bool} {os : List Int} (h : InvD p f lf os) (hd : ∀ q, dfOk q → lf q = false) (n : Int) : n ∈ os ↔ dfOk (p, n) ∧ (f (p, n)).isSome = true := by
  constructor
  · intro hm
    obtain ⟨h1, h2, -⟩ := h.each n hm
    exact ⟨h1, h2⟩
  · rintro ⟨h1, h2⟩
    rcases h.all (p, n) h1 h2 with h3 | h3
    · rw [hd _ h1] at h3
      cases h3
    · exact h3
/-- The reference's list. -/
def defTo (L : List Int) (k : Nat) : List Int := ((List.range k).map fun (i : Nat) => (i : Int)).filter fun z => L.contains z
def defR (U : List Ev) (p : ByteArray) : List Int := defTo (olist U p) 10000
theorem defTo_step (L : List Int) (k : Nat) : defTo L (k + 1) = defTo L k ++ if L.contains (k : Int) = true then [(k : Int)] else [] := by
  unfold defTo
  rw [List.range_succ, List.map_append, List.filter_append]
  congr 1
  by_cases h : L.contains (k : Int) = true
  · rw [if_pos h]; simpa using h
  · rw [if_neg h]; simpa using h
theorem defTo_asc (L : List Int) (k : Nat) : (defTo L k).Pairwise fun x y => x < y := by
  unfold defTo
  refine List.Pairwise.filter _ ?_
  rw [List.pairwise_map]
  refine List.Pairwise.imp ?_ (List.pairwise_lt_range (n := k))
  intro a b h
  omega
theorem defTo_len (L : List Int) (k : Nat) : (defTo L k).length ≤ k := by
  unfold defTo
  have := List.length_filter_le (fun z => L.contains z) ((List.range k).map fun (i : Nat) => (i : Int))
  simpa using this
theorem mem_defTo (L : List Int) (k : Nat) (n : Int) : n ∈ defTo L k ↔ 0 ≤ n ∧ n < k ∧ n ∈ L := by
  unfold defTo
  rw [List.mem_filter, List.mem_map]
  constructor
  · rintro ⟨⟨i, hi, rfl⟩, h⟩
    rw [List.mem_range] at hi
    exact ⟨by omega, by omega, by simpa using h⟩
  · rintro ⟨h1, h2, h3⟩
    exact ⟨⟨n.toNat, List.mem_range.2 (by omega), by omega⟩, by simpa using h3⟩
theorem olist_two : ∀ (U : List Ev) (p : ByteArray) (n : Int), n ∈ olist U p ↔ ∃ b, n ∈ olistG b U p
  | [], p, n => by simp [olist, olistG]
  | x :: r, p, n => by
    simp only [olist, olistG, isG]
    have ih := olist_two r p n
    by_cases hd : isD p x = true
    · by_cases hr : repIn r p x.n = true
      · simp [hd, hr, ih]
      · rcases Bool.eq_false_or_eq_true x.gr with hg | hg
        · simp [hd, hr, hg, ih, or_left_comm]
        · simp [hd, hr, hg, ih, or_assoc]
    · simp [hd, ih]
theorem rec_nums : ∀ {l seen : List Ev}, rGo seen l = 0 → ∀ x ∈ l, 0 ≤ x.n ∧ x.n ≤ 9999
  | y :: r, seen, h, x, hx => by
    rw [rGo] at h
    split at h
    · rename_i h0
      rcases List.mem_cons.1 hx with rfl | hx
      · have := inR_iff.1 (eE_zero h0).2.2
        omega
      · exact rec_nums h x hx
    · contradiction
/-- What the program puts down and sorts is the reference's list. -/
theorem defects_same {l : List Ev} (hl : recErr l = 0) (ho : ∀ x ∈ l, evOk x) {p : ByteArray} (hp2 : p.size ≤ 30) (day : Int) {os : List Int} (hd : os.Nodup) (hm : ∀ n, n ∈ os ↔ dfOk (p, n) ∧ (opn (l.filter (ownE p day)) (p, n)).isSome = true) :
    os.mergeSort (fun x y => decide (x ≤ y)) = defR (l.filter (upF day)) p := by
  have hv := (ups day l [] (rec_go hl)).2
  have hnum := rec_nums hv
  have hU : ∀ x ∈ l.filter (upF day), x ∈ l := fun x hx => (List.mem_filter.1 hx).1
  rw [own_two] at hm
  generalize l.filter (upF day) = U at *
  refine int_asc_unique (int_sort_asc hd) (defTo_asc _ _) fun n => ?_
  unfold defR
  rw [(List.mergeSort_perm os _).mem_iff, hm, mem_defTo, olist_two, opn_own, if_pos rfl]
  constructor
  · rintro ⟨-, h⟩
    obtain ⟨b, hb⟩ := Option.isSome_iff_exists.1 h
    have hg := (open_iff p U hv n b).2 hb
    obtain ⟨x, hx, rfl⟩ := olistG_of b U p n hg
    have := hnum x hx
    exact ⟨this.1, by omega, b, hg⟩
  · rintro ⟨-, -, b, hg⟩
    obtain ⟨x, hx, rfl⟩ := olistG_of b U p n hg
    exact ⟨⟨by show p.size ≤ 1000; omega, ho x (hU x hx)⟩, by rw [(open_iff p U hv x.n b).1 hg]; rfl⟩
theorem own_plat {U : List Ev} {p : ByteArray} : ∀ q : Df, (opn (U.filter (ownP p)) q).isSome = true → q.1 = p := fun ⟨q, n⟩ h => by
  rw [opn_own] at h
  split at h
  · assumption
  · cases h

end Go.Proofs.Ytgjjjnofdjhikaa

/- Chapter 9, walks: Defects of the program. -/
namespace Go.Proofs.Ytgjjjnofdjhikaa
open Go.RowKit Go.Maps Go.WideShapes Go.Deep Go.Sort

/-- slices.Sort over a row of numbers that the call owns. -/
theorem sortI_any {w : World} {base n : Nat} {v : Value} {l : List Int} (h : w.ownsRow base 3 1 v n (i64s l)) (hn : n ≤ 1000000) :
    Calls Try.prog 51 #[v] w fun e w' => e = .returned (.tuple #[]) ∧ w'.ownsRow base 3 1 v n (i64s (l.mergeSort fun x y => decide (x ≤ y))) ∧ w.grownBy w' v.ownBlock := by
  have hl : l.length = n := by have := h.1; rw [i64s_length] at this; omega
  rcases h.2 with ⟨rfl, rfl⟩ | ⟨g, cap, cur, rfl, hbg, hh, hnc, hm, hs, hx⟩
  · refine (Try.slices_Sort_int_none none 0 w).mono ?_
    rintro e w' ⟨rfl, rfl⟩
    obtain rfl : l = [] := List.eq_nil_of_length_eq_zero hl
    exact ⟨rfl, by simpa using h, ⟨rfl, rfl, rfl, Nat.le_refl _, fun _ _ _ => rfl⟩⟩
  · have hg : g < w.heap.size := (Array.getElem?_eq_some_iff.1 hh).1
    have ht : cur.toList.take l.length = l.map (Value.int .i64) := by rw [hl, ← Nat.mul_one n]; exact hx
    have e1 : (Value.slice (some ⟨g, 0, none⟩) n cap) = .slice (some ⟨g, 0, none⟩) l.length cap := by simp [hl]
    rw [e1]
    refine (Try.slices_Sort_int g 0 cap l w (holds_of_blockI hh ht) hg (by omega)).mono ?_
    rintro e w' ⟨rfl, q, os, rfl⟩
    have hlen := (List.mergeSort_perm l fun x y => decide (x ≤ y)).length_eq
    refine ⟨rfl, ?_, grownBy_sortedI (w := w) (g := g) (n := q) (os := os) _⟩
    have := ownsRow_sortedI (w := w) (n := q) (os := os) (e := 3) (ts := l.mergeSort fun x y => decide (x ≤ y)) (ss := l) hlen hbg hh (by omega) hm hs
    rw [← e1]
    rw [hl] at this
    exact this
theorem len_eq (os : List Int) : (os.mergeSort (fun x y => decide (x ≤ y))).length = os.length := (List.mergeSort_perm os _).length_eq
theorem fld5 (a b c d : Bool) (z : Int) (gm : Nat) (w : World) : (Instr.field 89 (.agg #[.bool a, .bool b, .bool c, .bool d, .int .i64 z, .map (some gm)]) 5).run Try.prog w = .ok (.map (some gm)) w := by kernel_rfl
set_option maxRecDepth 100000 in
set_option maxHeartbeats 8000000 in
theorem defP_ok (A : Option Addr) (n c : Nat) (l : List Ev) (p : ByteArray) (day : Int) (w : World) (h : Rws Ev.cs 6 w w.heap.size A n c l) (hs : ∀ x ∈ l, x.p.size ≤ 30) (ho : ∀ x ∈ l, evOk x) (hp2 : p.size ≤ 30) (hE : qErr l p day = 0) :
    Calls Try.prog 21 #[.slice A n c, .string p, .int .i64 day] w fun e w' => Below w.heap.size w w' ∧ ∃ v, e = .returned (.tuple #[v, .int .i64 0]) ∧ w'.ownsRow w.heap.size 3 1 v (defR (l.filter (upF day)) p).length (i64s (defR (l.filter (upF day)) p)) := by
  obtain ⟨hR, -, hP⟩ := qErr_zero hE
  have hn := recErr_small hR
  rw [h.len] at hn
  have QE : Hid (Calls Try.prog 47 #[.slice A n c, .string p, .int .i64 day] w fun e w' => Below w.heap.size w w' ∧ e = .returned (.int .i64 0)) := Lib.hid (by
    have := questionError_any A n c l p day w h (fun _ => hs) ho
    rwa [hE] at this)
  have SO : Hid (∀ W, Below w.heap.size w W → Calls Try.prog 50 #[.slice A n c, .string p, .int .i64 day] W fun e w' => Below W.heap.size W w' ∧ ∃ gm m, W.heap.size ≤ gm ∧ m ≤ 1000 ∧ e = .returned (.agg ((stOf (l.filter (ownE p day))).cs gm)) ∧ BMap w' Try.prog 92 4 dfV dfOk gm m (opn (l.filter (ownE p day)))) := Lib.hid fun W hW => statusOf_any A n c l p day W (h.below hW (Nat.le_refl _) hW.size) (by omega) hs ho
  have SAME : Hid (∀ os : List Int, os.Nodup → (∀ n, n ∈ os ↔ dfOk (p, n) ∧ (opn (l.filter (ownE p day)) (p, n)).isSome = true) → os.mergeSort (fun x y => decide (x ≤ y)) = defR (l.filter (upF day)) p) := Lib.hid fun os h1 h2 => defects_same hR ho hp2 day h1 h2
  have HPP : Hid (∀ q : Df, (opn (l.filter (ownE p day)) q).isSome = true → q.1 = p) := Lib.hid (by rw [own_two]; exact own_plat)
  generalize defR (l.filter (upF day)) p = G at SAME ⊢
  generalize l.filter (ownE p day) = F at SO SAME HPP
  generalize opn F = f at SO SAME HPP
  generalize stOf F = s at SO
  obtain ⟨q0, q1, q2, q3, q4⟩ := s
  unfold St.cs at SO
  dsimp only at SO
  clear h hs ho hE hR hP hp2
  have hfld := fld5 q0 q1 q2 q3 q4
  go_enter Try.func21, Try.ntmps21
  go_wp2_with (first | (go_at_call 47; refine QE.out.mono ?_; rintro e w1 ⟨hb1, rfl⟩; have HB1 := Lib.hid hb1; clear hb1) | (go_at_call 50; refine (SO.out _ HB1.out).mono ?_; rintro e w2 ⟨hb2, gm, m, hgm, hm, rfl, hmap⟩; have HM2 := Lib.hid hmap; have HB2 : Hid (Below w.heap.size w w2) := Lib.hid (HB1.out.trans (hb2.mono HB1.out.size)); have ow1 := HB1.out.size; have ow2 := hb2.size; have olm := hmap.lt; clear hmap hb2) | (at_range; refine wpList_range_b rfl _ rfl (df_keys w) Try.underlying80 rfl HM2.out (r := w2.heap.size) rfl ?_; intro w3 cnt hrg hcn hg3 hs3; have HR3 := Lib.hid hrg; have HB3 : Hid (Below w.heap.size w w3) := Lib.hid (Below.grown_ HB2.out hg3 HB2.out.size (fun q hq => by cases hq)); clear hrg hg3))
  go_frame

  go_loopw [9, 10] (fun v _ wr => ∃ (cnt : Nat) (lf : Df → Bool) (os : List Int), Hid (BRng wr Try.prog 92 4 dfV dfOk gm w2.heap.size m f lf cnt) ∧ Hid (wr.ownsRow w3.heap.size 3 1 v os.length (i64s os)) ∧ Hid (InvD p f lf os) ∧ os.length + cnt ≤ 1000 ∧ w3.heap.size ≤ wr.heap.size ∧ Hid (Below w.heap.size w wr)) (fun _ _ wr => wr.rangeLeft gm w2.heap.size)
  case atStart => exact ⟨cnt, _, [], HR3, Lib.hid (World.ownsRow_nil _ _ _ _), Lib.hid (InvD.start p f), by simp; omega, Nat.le_refl _, HB3⟩
  case round =>
    obtain ⟨cnt, lf, os, HR, HOWN, HI, hlen, ow3, HB⟩ := hrel
    have orr := HR.out.lt.1
    have HLT : Hid (∀ q, u9.ownBlock = some q → w3.heap.size ≤ q) := Lib.hid fun q hq => (HOWN.out.lt q hq).1
    go_wp2_with (first | (at_next; go_loud (refine wpList_next_b rfl _ rfl (df_keys w) Try.underlying4 rfl HR.out ?_ ?_; rotate_left; intro x cc w4 cnt4 hx hlx hfx hrg4 hlt hg4 hs4 hen; have HB4 : Hid (Below w.heap.size w w4) := Lib.hid (Below.grown_ HB.out hg4 HB.out.size (fun q hq => by cases hq; omega)); have HO4 : Hid (w4.ownsRow w3.heap.size 3 1 u9 os.length (i64s os)) := Lib.hid (HOWN.out.kept hg4 (.inr (fun e => by have := HLT.out _ e; omega))); have HR4 := Lib.hid hrg4; have HM4 := Lib.hid (And.intro hrg4.left_eq hlt); have HI4 := Lib.hid (HI.out.step HPP.out hx hlx (by rw [hfx]; rfl)); obtain ⟨xp, xn⟩ := x; dsimp only [dfV] at hen ⊢; clear hrg4 hg4 hx hlx hfx hlt; rotate_left; intro hdn; have HE := Lib.hid (HI.out.end_ hdn); clear hdn; rotate_left)) | (at_builtin; go_loud (refine app_i (W := os) (base := w3.heap.size) (vw := u9) ?_ rfl _ _ rfl rfl xn _ rfl ?_ (by omega) ?_ ?_; (exact own_step HO4.out (by exact (by repeat (first | with_reducible exact Below.refl _ _ | with_reducible assumption | with_reducible refine Below.drew ?_ | with_reducible refine Below.drewN ?_ _ | with_reducible refine Below.alloc2 ?_ _ | with_reducible refine Below.alloc ?_ (by first | omega | (simp <;> omega)) _ | with_reducible refine Below.setCell ?_ (by first | omega | (simp <;> omega)) _ | with_reducible refine Below.step2 (by with_reducible assumption) ?_ | with_reducible refine Below.step (by with_reducible assumption) ?_ (by first | omega | (simp <;> omega)))))); (focus (exact Bk.at_ (by simp [hs4]))); (focus (first | (simp; done) | (simp; omega) | omega)); intro v5 w5 ho5 hg5; have HO5 := Lib.hid ho5; have HB5 : Hid (Below w.heap.size w w5) := Lib.hid (Below.grown_ (by have hb0 := HB4.out; exact (by repeat (first | with_reducible exact Below.refl _ _ | with_reducible assumption | with_reducible refine Below.drew ?_ | with_reducible refine Below.drewN ?_ _ | with_reducible refine Below.alloc2 ?_ _ | with_reducible refine Below.alloc ?_ (by first | omega | (simp <;> omega)) _ | with_reducible refine Below.setCell ?_ (by first | omega | (simp <;> omega)) _ | with_reducible refine Below.step2 (by with_reducible assumption) ?_ | with_reducible refine Below.step (by with_reducible assumption) ?_ (by first | omega | (simp <;> omega))))) hg5 (by have := HB4.out.size; first | (simp; done) | (simp; omega) | omega) (fun q hq => by have := HLT.out q hq; omega)); have HR5 : Hid (BRng w5 Try.prog 92 4 dfV dfOk gm w2.heap.size m f _ cnt4) := Lib.hid (((HR4.out.kept (World.grownBy_alloc _ _ none) (by simp) (by simp)).kept (World.grownBy_alloc _ _ none) (by simp) (by simp)).kept hg5 (fun e => by have := HLT.out _ e.symm; omega) (fun e => by have := HLT.out _ e.symm; omega)); have ow5 := hg5.size; (try simp at ow5); clear ho5 hg5)) | (go_at_call 51; go_loud (refine (sortI_any HOWN.out (by omega)).mono ?_); rintro e w6 ⟨rfl, ho6, hg6⟩; have HO6 := Lib.hid ho6; have HB6 : Hid (Below w.heap.size w w6) := Lib.hid (Below.grown_ HB.out hg6 HB.out.size (fun q hq => by have := HLT.out q hq; omega)); have HSAME := Lib.hid (SAME.out os HI.out.nd HE.out); clear ho6 hg6))
    · go_roundw
      case rel => exact ⟨cnt4, _, os ++ [xn], HR5, HO5, HI4, by have := HM4.out.2; simp; omega, by omega, HB5⟩
      case measure => rw [HR5.out.left_eq, HR.out.left_eq]; exact HM4.out.2
    · go_ret2
      refine ⟨HB6.out, _, rfl, ?_⟩
      rw [← HSAME.out, len_eq os]
      exact own_base HO6.out (by have := HB3.out.size; omega)

end Go.Proofs.Ytgjjjnofdjhikaa

/- Chapter 9, walks: Defects of the reference. -/
namespace Go.Proofs.Ytgjjjnofdjhikaa
open Go.RowKit Go.Maps

set_option maxRecDepth 100000 in
set_option maxHeartbeats 4000000 in
theorem defR_any (A : Option Addr) (n c : Nat) (l : List Ev) (p : ByteArray) (day : Int) (w : World) (h : Rws Ev.cs 6 w w.heap.size A n c l) (hn : n ≤ 400) :
    Calls Try.prog 27 #[.slice A n c, .string p, .int .i64 day] w fun e w' => Below w.heap.size w w' ∧ ∃ v, e = .returned v ∧ w'.ownsRow w.heap.size 3 1 v (defR (l.filter (upF day)) p).length (i64s (defR (l.filter (upF day)) p)) := by
  have UP : Hid (Calls Try.prog 35 #[.slice A n c, .int .i64 day] w fun e w' => Below w.heap.size w w' ∧ ∃ v, e = .returned v ∧ w'.ownsRow w.heap.size 24 6 v (l.filter (upF day)).length ((l.filter (upF day)).flatMap Ev.cs)) := Lib.hid (refUptoE_any A n c l day w h (by omega))
  have hFl : (l.filter (upF day)).length ≤ 400 := by have := List.length_filter_le (upF day) l; rw [h.len] at this; omega
  generalize l.filter (upF day) = F at UP hFl ⊢
  clear h
  have OP : Hid (∀ A c W, Rws Ev.cs 6 W W.heap.size A F.length c F → Calls Try.prog 41 #[.slice A F.length c, .string p, .bool false, .bool true] W fun e w' => Below W.heap.size W w' ∧ ∃ A' m c', e = .returned (.slice A' m c') ∧ Nums w' w'.heap.size A' m c' (olist F p)) := Lib.hid fun A c W hW => opened_any A F.length c F p W hW (by omega)
  have e0 : defR F p = defTo (olist F p) 10000 := rfl
  rw [e0]
  generalize olist F p = L at OP ⊢
  clear e0
  obtain ⟨N, hN⟩ : ∃ N, F.length = N := ⟨_, rfl⟩
  rw [hN] at UP OP hFl
  have HNL := Lib.hid hN
  clear hN
  go_enter Try.func27, Try.ntmps27
  go_wp2_with (first
    | (go_at_call 35; refine UP.out.mono ?_; rintro e w1 ⟨hb1, v, rfl, hown⟩; obtain ⟨A1, c1, rfl, hr⟩ := Rws.of_own hown HNL.out; have HR1 := Lib.hid hr; have HB1 := Lib.hid hb1; clear hown hr hb1)
    | (go_at_call 41; refine (OP.out _ _ _ HR1.out).mono ?_; rintro e w2 ⟨hb2, A2, m2, c2, rfl, hnum⟩; have HAS : Hid (∀ W x, Below w2.heap.size w2 W → Calls Try.prog 40 #[.slice A2 m2 c2, .int .i64 x] W fun e w' => W = w' ∧ e = .returned (.bool (L.contains x))) := Lib.hid (fun W x hW => has_any A2 m2 c2 _ L x W (hnum.below hW (Nat.le_refl _) (Nat.le_refl _))); have HB2 : Hid (Below w.heap.size w w2) := Lib.hid (HB1.out.trans (hb2.mono HB1.out.size)); clear hnum hb2))
  go_loopw [8, 9] (fun v i wr => ∃ (k : Nat) (os : List Int), k ≤ 10000 ∧ i = .int .i64 k ∧ Hid (defTo L k = os) ∧ wr.ownsRow w2.heap.size 3 1 v os.length (i64s os) ∧ Below w2.heap.size w2 wr) (fun _ i _ => 10000 - (intOf i).toNat)
  case atStart => exact ⟨0, [], Nat.zero_le _, rfl, Lib.hid rfl, World.ownsRow_nil _ _ _ _, Below.refl _ _⟩
  case round =>
    obtain ⟨k, os, hk, rfl, HOS, hown, hb⟩ := hrel
    have HB := Lib.hid hb
    have HOWN := Lib.hid hown
    have ow := hb.size
    have hol : os.length ≤ 10000 := by have := defTo_len L k; rw [HOS.out] at this; omega
    have HT := Lib.hid (defTo_step L k)
    clear hb hown
    by_cases hlt : k < 10000
    · obtain ⟨v, hv⟩ : ∃ v, L.contains (k : Int) = v := ⟨_, rfl⟩
      have HK : Hid (Calls Try.prog 40 #[.slice A2 m2 c2, .int .i64 k] wr fun e w' => wr = w' ∧ e = .returned (.bool v)) := Lib.hid (by have := HAS.out wr k HB.out; rwa [hv] at this)
      rw [hv] at HT
      have hle : decide ((k : Int) ≤ 9999) = true := decide_eq_true (by omega)
      clear hv
      cases v
      · go_wp2_with (go_at_call 40; refine HK.out.mono ?_; rintro e w' ⟨rfl, rfl⟩)
        go_roundw
        case rel => exact ⟨k + 1, os, by omega, by go_num, Lib.hid (by rw [HT.out, HOS.out]; simp), HOWN.out, HB.out⟩
        case measure => simp [intOf]; omega
      · go_wp2_with (first
          | (go_at_call 40; refine HK.out.mono ?_; rintro e w' ⟨rfl, rfl⟩)
          | (at_builtin; go_loud (refine app_i (W := os) (base := w2.heap.size) ?_ rfl _ _ rfl rfl (k : Int) _ rfl ?_ (by omega) ?_ ?_; (exact own_step HOWN.out (by exact (by repeat (first | with_reducible exact Below.refl _ _ | with_reducible assumption | with_reducible refine Below.drew ?_ | with_reducible refine Below.drewN ?_ _ | with_reducible refine Below.alloc2 ?_ _ | with_reducible refine Below.alloc ?_ (by first | omega | (simp <;> omega)) _ | with_reducible refine Below.setCell ?_ (by first | omega | (simp <;> omega)) _ | with_reducible refine Below.step2 (by with_reducible assumption) ?_ | with_reducible refine Below.step (by with_reducible assumption) ?_ (by first | omega | (simp <;> omega)))))); (focus (exact (by repeat (first | with_reducible assumption | with_reducible exact Bk.at_ (by first | (simp; done) | omega) | with_reducible refine Bk.alloc ?_ _ | with_reducible refine Bk.drew ?_ | with_reducible refine Bk.drewN ?_ _ | with_reducible refine Bk.step (by with_reducible assumption) ?_ (by first | omega | (simp <;> omega)))))); (focus (have := HB.out.size; first | (simp; done) | (simp; omega) | omega)); intro v4 w4 ho4 hg4; have HO4 := Lib.hid ho4; have HB4 : Hid (Below w2.heap.size w2 w4) := Lib.hid (Below.grown_ (by have hb0 := HB.out; exact (by repeat (first | with_reducible exact Below.refl _ _ | with_reducible assumption | with_reducible refine Below.drew ?_ | with_reducible refine Below.drewN ?_ _ | with_reducible refine Below.alloc2 ?_ _ | with_reducible refine Below.alloc ?_ (by first | omega | (simp <;> omega)) _ | with_reducible refine Below.setCell ?_ (by first | omega | (simp <;> omega)) _ | with_reducible refine Below.step2 (by with_reducible assumption) ?_ | with_reducible refine Below.step (by with_reducible assumption) ?_ (by first | omega | (simp <;> omega))))) hg4 (by have := HB.out.size; first | (simp; done) | (simp; omega) | omega) (fun q hq => (HOWN.out.lt q hq).1)); clear ho4 hg4)))
        go_roundw
        case rel => exact ⟨k + 1, os ++ [(k : Int)], by omega, by go_num, Lib.hid (by rw [HT.out, HOS.out]; simp), HO4.out, HB4.out⟩
        case measure => simp [intOf]; omega
    · obtain rfl : k = 10000 := by omega
      have hle : decide (((10000 : Nat) : Int) ≤ 9999) = false := by decide
      clear HT
      go_wp2
      go_ret
      exact ⟨HB2.out.trans (HB.out.mono HB2.out.size), _, rfl, by rw [HOS.out]; exact own_base HOWN.out HB2.out.size⟩

end Go.Proofs.Ytgjjjnofdjhikaa
