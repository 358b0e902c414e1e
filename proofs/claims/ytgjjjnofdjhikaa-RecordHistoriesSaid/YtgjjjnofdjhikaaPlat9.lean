/- Chapter 9, walks: the platforms of a record, on the program's side. -/
import Derived.Test.YtgjjjnofdjhikaaOff9
import Derived.Test.YtgjjjnofdjhikaaKinds9
import Derived.Test.YtgjjjnofdjhikaaBase9
import Derived.Test.YtgjjjnofdjhikaaShelf
import Derived.Sort.OwnSorted
namespace Go.Proofs.Ytgjjjnofdjhikaa
open Go.RowKit Go.WideShapes Go.Deep Go.Sort

/-- Texts in a row. -/
def Ss (l : List (List UInt8)) : List Value := l.map encStr
theorem Ss_len (l : List (List UInt8)) : (Ss l).length = l.length := by simp [Ss]
theorem encStr_of (p : ByteArray) : encStr p.data.toList = .string p := rfl
theorem info_str : (Try.prog.info? 9).map (fun i => (i.zero.map (·.cells.size), i.size, i.bytes)) = some (some 1, 1, 16) := by kernel_rfl
section
variable {w : World} {base : Nat} {ops : Array Oper} {rest : List Oper} {o : Oper} {a : Act} {Q : Exit → Act → World → Prop}
/-- A text, behind a row of the call's own. -/
theorem app_s {W : List (List UInt8)} {vw : Value} (h : w.ownsRow base 9 1 vw W.length (Ss W)) (hgd : o.guard = none) (s x : Operand) (ho : o.op = .call { callee := .builtin .append, args := #[s, x], argTypes := #[28, 28] })
    (hs : a.eval s = vw) (y : List UInt8) (B : Nat) (hx : a.eval x = .slice (some ⟨B, 0, none⟩) 1 1) (hB : Bk w B 9 #[encStr y]) (hn : W.length ≤ 30000) (hbase : base ≤ w.heap.size)
    (hK : ∀ v' w', w'.ownsRow base 9 1 v' (W ++ [y]).length (Ss (W ++ [y])) → w.grownBy w' vw.ownBlock → wpList Try.prog ops Q rest (a.put o.dst v') w') : wpList Try.prog ops Q (o :: rest) a w := by
  obtain ⟨i0, z, hi0, hz0, hzs, hz1, hz2⟩ := info_cells info_str
  exact wpList_append_own_at w hgd s x _ ho base 9 i0 z 1 16 Try.underlying28 hi0 hz0 hz1 hz2 hzs (by omega) vw W.length (Ss W) hs h ⟨B, 0, none⟩ 1 1 [encStr y] hx rfl (World.news_of_block (fr := (0, 0)) hB) (by intro u hu; simp at hu; subst hu; rfl) (by unfold maxLen; omega) (by omega) hbase fun v' w' h1 h2 _ h4 => hK v' w' (by simpa [Ss] using h1) h2
end
theorem own_cut {w : World} {base e g n cap m : Nat} {xs : List Value} (h : w.ownsRow base e 1 (.slice (some ⟨g, 0, none⟩) n cap) n xs) (hm : m ≤ n) : w.ownsRow base e 1 (.slice (some ⟨g, 0, none⟩) m cap) m (xs.take m) := by
  refine ⟨by rw [List.length_take, h.1]; omega, ?_⟩
  rcases h.2 with ⟨e1, -⟩ | ⟨g', cap', cur, e1, hb, hh, hnc, hc, hs, hx⟩
  · cases e1
  · injection e1 with e1 e2 e3
    injection e1 with e1
    injection e1 with e1 e4
    subst e1; subst e3
    refine .inr ⟨g, cap, cur, rfl, hb, hh, by omega, hc, hs, ?_⟩
    rw [← hx, List.take_take]
    congr 1
    omega
/-- slices.Sort over a row that the call owns. -/
theorem sortS_any {w : World} {base n : Nat} {v : Value} {l : List (List UInt8)} (h : w.ownsRow base 9 1 v n (Ss l)) (hn : n ≤ 1000000) :
    Calls Try.prog 64 #[v] w fun e w' => e = .returned (.tuple #[]) ∧ w'.ownsRow base 9 1 v n (Ss (l.mergeSort fun x y => decide (x ≤ y))) ∧ w.grownBy w' v.ownBlock := by
  have hl : l.length = n := by have := h.1; rw [Ss_len] at this; omega
  rcases h.2 with ⟨rfl, rfl⟩ | ⟨g, cap, cur, rfl, hbg, hh, hnc, hm, hs, hx⟩
  · refine (Try.slices_Sort_string_none none 0 w).mono ?_
    rintro e w' ⟨rfl, rfl⟩
    obtain rfl : l = [] := List.eq_nil_of_length_eq_zero hl
    exact ⟨rfl, by simpa using h, ⟨rfl, rfl, rfl, Nat.le_refl _, fun _ _ _ => rfl⟩⟩
  · have hg : g < w.heap.size := (Array.getElem?_eq_some_iff.1 hh).1
    have ht : cur.toList.take l.length = l.map encStr := by rw [hl, ← Nat.mul_one n]; exact hx
    have e1 : (Value.slice (some ⟨g, 0, none⟩) n cap) = .slice (some ⟨g, 0, none⟩) l.length cap := by simp [hl]
    rw [e1]
    refine (Try.slices_Sort_string g 0 cap l w (holds_of_block hh ht) hg (by omega)).mono ?_
    rintro e w' ⟨rfl, q, os, rfl⟩
    have hlen := (List.mergeSort_perm l fun x y => decide (x ≤ y)).length_eq
    refine ⟨rfl, ?_, grownBy_sorted (w := w) (g := g) (n := q) (os := os) _⟩
    have := ownsRow_sorted (w := w) (n := q) (os := os) (e := 9) (ts := l.mergeSort fun x y => decide (x ≤ y)) (ss := l) hlen hbg hh (by omega) hm hs
    rw [← e1]
    rw [hl] at this
    exact this
theorem compact_len (l : List (List UInt8)) : (Lib.compact l).length ≤ l.length := by
  unfold Lib.compact Lib.compactUpTo
  rw [List.length_map]
  exact Nat.le_trans (List.length_filter_le _ _) (by simp)
/-- slices.Compact over a row that the call owns. -/
theorem compS_any {w : World} {base n : Nat} {v : Value} {l : List (List UInt8)} (h : w.ownsRow base 9 1 v n (Ss l)) (hn : n ≤ 1000000) :
    Calls Try.prog 65 #[v] w fun e w' => ∃ v', e = .returned v' ∧ w'.ownsRow base 9 1 v' (Lib.compact l).length (Ss (Lib.compact l)) ∧ w.grownBy w' v.ownBlock := by
  have hl : l.length = n := by have := h.1; rw [Ss_len] at this; omega
  have hle := compact_len l
  rcases h.2 with ⟨rfl, rfl⟩ | ⟨g, cap, cur, rfl, hbg, hh, hnc, hm, hs, hx⟩
  · refine (Try.slices_Compact_string_empty none 0 w).mono ?_
    rintro e w' ⟨rfl, rfl⟩
    obtain rfl : l = [] := List.eq_nil_of_length_eq_zero hl
    exact ⟨_, rfl, (by rw [show Lib.compact ([] : List (List UInt8)) = [] from rfl]; exact h), ⟨rfl, rfl, rfl, Nat.le_refl _, fun _ _ _ => rfl⟩⟩
  · have hg : g < w.heap.size := (Array.getElem?_eq_some_iff.1 hh).1
    have ht : cur.toList.take l.length = l.map encStr := by rw [hl, ← Nat.mul_one n]; exact hx
    have e1 : (Value.slice (some ⟨g, 0, none⟩) n cap) = .slice (some ⟨g, 0, none⟩) l.length cap := by simp [hl]
    rw [e1]
    refine (Try.slices_Compact_string g 0 cap l w (holds_of_block hh ht) (by omega) (by omega)).mono ?_
    rintro e w' ⟨rfl, q, rfl⟩
    have hlen : (Lib.compact l ++ List.replicate (l.length - (Lib.compact l).length) []).length = l.length := by simp; omega
    refine ⟨_, rfl, ?_, ?_⟩
    · have := ownsRow_sorted (w := w) (n := q) (os := #[]) (e := 9) (ts := Lib.compact l ++ List.replicate (l.length - (Lib.compact l).length) []) (ss := l) hlen hbg hh (by omega) hm hs
      rw [Sort.grow_empty] at this
      have h2 := own_cut this hle
      rw [show (List.map encStr (Lib.compact l ++ List.replicate (l.length - (Lib.compact l).length) [])).take (Lib.compact l).length = Ss (Lib.compact l) by rw [List.map_append, Ss]; exact List.take_left' (by simp)] at h2
      exact h2
    · have := grownBy_sorted (w := w) (g := g) (n := q) (os := #[]) (Lib.compact l ++ List.replicate (l.length - (Lib.compact l).length) []).toArray
      rwa [Sort.grow_empty] at this

/-- The platforms of a record. -/
def notStorm (x : Ev) : Bool := !decide (x.k = 3)
def plL (l : List Ev) : List (List UInt8) := (l.filter notStorm).map fun x => x.p.data.toList
def platsP (l : List Ev) : List (List UInt8) := Lib.compact ((plL l).mergeSort fun x y => decide (x ≤ y))
theorem plL_step {l : List Ev} {k : Nat} {x : Ev} (hx : l[k]? = some x) : plL (l.take (k + 1)) = plL (l.take k) ++ if notStorm x = true then [x.p.data.toList] else [] := by
  unfold plL
  rw [take_step hx, List.filter_append, List.map_append]
  by_cases h : notStorm x = true <;> simp [h]
set_option maxRecDepth 100000 in
set_option maxHeartbeats 4000000 in
theorem platformsOf_any (A : Option Addr) (n c : Nat) (l : List Ev) (w : World) (h : Rws Ev.cs 6 w w.heap.size A n c l) (hn : n ≤ 1000) :
    Calls Try.prog 42 #[.slice A n c] w fun e w' => Below w.heap.size w w' ∧ ∃ v, e = .returned v ∧ w'.ownsRow w.heap.size 9 1 v (platsP l).length (Ss (platsP l)) := by
  have hcap := h.cap
  have hmax := h.max
  have HLEN := Lib.hid h.len
  have H : Hid (∀ w', Below w.heap.size w w' → Rws Ev.cs 6 w' w.heap.size A n c l) := fun w' hb => h.below hb (Nat.le_refl _) (Nat.le_refl _)
  have HLN : Hid (∀ k, (plL (l.take k)).length ≤ 1000) := Lib.hid fun k => by
    unfold plL
    rw [List.length_map]
    have h1 := List.length_filter_le notStorm (l.take k)
    have h2 : (l.take k).length ≤ l.length := by rw [List.length_take]; omega
    have := h.len
    omega
  clear h
  go_enter Try.func42, Try.ntmps42
  go_wp2
  go_loopw [3, 5, 8] (fun vo _ i wr => ∃ (k : Nat) (W : List (List UInt8)), k ≤ n ∧ i = .int .i64 k ∧ Hid (plL (l.take k) = W) ∧ wr.ownsRow w.heap.size 9 1 vo W.length (Ss W) ∧ Below w.heap.size w wr) (fun _ _ i _ => n - (intOf i).toNat)
  case atStart => exact ⟨0, [], Nat.zero_le _, rfl, Lib.hid rfl, World.ownsRow_nil _ _ _ _, (by repeat (first | with_reducible exact Below.refl _ _ | with_reducible assumption | with_reducible refine Below.drew ?_ | with_reducible refine Below.drewN ?_ _ | with_reducible refine Below.alloc2 ?_ _ | with_reducible refine Below.alloc ?_ (by first | omega | (simp <;> omega)) _ | with_reducible refine Below.setCell ?_ (by first | omega | (simp <;> omega)) _ | with_reducible refine Below.step2 (by with_reducible assumption) ?_ | with_reducible refine Below.step (by with_reducible assumption) ?_ (by first | omega | (simp <;> omega))))⟩
  case round =>
    obtain ⟨k, W, hk, rfl, HV, ho, hb⟩ := hrel
    have HB := Lib.hid hb
    have HO := Lib.hid ho
    have ow := hb.size
    have HWL : Hid (W.length ≤ 1000) := Lib.hid (by rw [← HV.out]; exact HLN.out k)
    by_cases hlt : k < n
    · obtain ⟨b, o, ⟨xd, xk, xp, xn, xs, xg⟩, rfl, hbb, hx, c0, c1, c2, c3, c4, c5⟩ := (H.out _ hb).ev hlt
      dsimp only at c0 c1 c2 c3 c4 c5
      have hst := plL_step hx
      rw [HV.out] at hst
      have z1 : (0 : Int) ≤ (k : Int) := by omega
      have z2 : (k : Int) < (n : Int) := by omega
      have ob : b < wr.heap.size := by omega
      by_cases h3 : xk = 3
      · rw [if_neg (show ¬ notStorm ⟨xd, xk, xp, xn, xs, xg⟩ = true by simp [notStorm, h3]), List.append_nil] at hst
        have HS := Lib.hid hst
        subst h3
        clear hx hb ho hst
        go_wp2
        go_roundw
        case rel =>
          have hb0 := HB.out
          exact ⟨k + 1, W, by omega, by go_num, HS, own_step HO.out (by exact (by repeat (first | with_reducible exact Below.refl _ _ | with_reducible assumption | with_reducible refine Below.drew ?_ | with_reducible refine Below.drewN ?_ _ | with_reducible refine Below.alloc2 ?_ _ | with_reducible refine Below.alloc ?_ (by first | omega | (simp <;> omega)) _ | with_reducible refine Below.setCell ?_ (by first | omega | (simp <;> omega)) _ | with_reducible refine Below.step2 (by with_reducible assumption) ?_ | with_reducible refine Below.step (by with_reducible assumption) ?_ (by first | omega | (simp <;> omega))))), (by repeat (first | with_reducible exact Below.refl _ _ | with_reducible assumption | with_reducible refine Below.drew ?_ | with_reducible refine Below.drewN ?_ _ | with_reducible refine Below.alloc2 ?_ _ | with_reducible refine Below.alloc ?_ (by first | omega | (simp <;> omega)) _ | with_reducible refine Below.setCell ?_ (by first | omega | (simp <;> omega)) _ | with_reducible refine Below.step2 (by with_reducible assumption) ?_ | with_reducible refine Below.step (by with_reducible assumption) ?_ (by first | omega | (simp <;> omega))))⟩
        case measure => simp [intOf]; omega
      · have d3 : (xk != 3) = true := by simpa using h3
        rw [if_pos (show notStorm ⟨xd, xk, xp, xn, xs, xg⟩ = true by simp [notStorm, h3])] at hst
        have HS := Lib.hid hst
        clear hx hb ho hst h3
        go_wp2_with (at_builtin; go_loud (refine app_s (W := W) (base := w.heap.size) (vw := u3) ?_ rfl _ _ rfl rfl xp.data.toList _ rfl ?_ (by have := HWL.out; omega) ?_ ?_; (exact own_step HO.out (by exact (by repeat (first | with_reducible exact Below.refl _ _ | with_reducible assumption | with_reducible refine Below.drew ?_ | with_reducible refine Below.drewN ?_ _ | with_reducible refine Below.alloc2 ?_ _ | with_reducible refine Below.alloc ?_ (by first | omega | (simp <;> omega)) _ | with_reducible refine Below.setCell ?_ (by first | omega | (simp <;> omega)) _ | with_reducible refine Below.step2 (by with_reducible assumption) ?_ | with_reducible refine Below.step (by with_reducible assumption) ?_ (by first | omega | (simp <;> omega)))))); (focus (show Bk _ _ _ #[.string xp]; exact (by repeat (first | with_reducible assumption | with_reducible exact Bk.at_ (by first | (simp; done) | omega) | with_reducible refine Bk.alloc ?_ _ | with_reducible refine Bk.drew ?_ | with_reducible refine Bk.drewN ?_ _ | with_reducible refine Bk.step (by with_reducible assumption) ?_ (by first | omega | (simp <;> omega)))))); (focus (have := HB.out.size; (try simp); omega)); intro v1 w1 ho1 hg1; have HO1 := Lib.hid ho1; have HG1 := Lib.hid hg1; clear ho1 hg1))
        go_roundw
        case rel =>
          have hb0 := HB.out
          refine ⟨k + 1, W ++ [xp.data.toList], by omega, by go_num, HS, HO1.out, ?_⟩
          exact Below.grown_ (D := w.heap.size) (by exact (by repeat (first | with_reducible exact Below.refl _ _ | with_reducible assumption | with_reducible refine Below.drew ?_ | with_reducible refine Below.drewN ?_ _ | with_reducible refine Below.alloc2 ?_ _ | with_reducible refine Below.alloc ?_ (by first | omega | (simp <;> omega)) _ | with_reducible refine Below.setCell ?_ (by first | omega | (simp <;> omega)) _ | with_reducible refine Below.step2 (by with_reducible assumption) ?_ | with_reducible refine Below.step (by with_reducible assumption) ?_ (by first | omega | (simp <;> omega))))) HG1.out (by have := hb0.size; (try simp); omega) (fun q hq => (HO.out.lt q hq).1)
        case measure => simp [intOf]; omega
    · have hW : plL l = W := by
        rw [← HV.out, List.take_of_length_le (by rw [HLEN.out]; omega)]
      have HW := Lib.hid hW
      clear hb ho hW
      go_wp2_with (first
        | (go_at_call 64; go_loud (refine (sortS_any HO.out (by have := HWL.out; omega)).mono ?_); rintro e w2 ⟨rfl, ho2, hg2⟩; have HO2 := Lib.hid ho2; have HB2 : Hid (Below w.heap.size w w2) := Lib.hid (Below.grown_ HB.out hg2 HB.out.size (fun q hq => (HO.out.lt q hq).1)); clear ho2 hg2)
        | (go_at_call 65; go_loud (refine (compS_any HO2.out (by have := HWL.out; omega)).mono ?_); rintro e w3 ⟨v3, rfl, ho3, hg3⟩; have HO3 := Lib.hid ho3; have HB3 : Hid (Below w.heap.size w w3) := Lib.hid (Below.grown_ HB2.out hg3 HB2.out.size (fun q hq => (HO2.out.lt q hq).1)); clear ho3 hg3))
      go_ret
      refine ⟨HB3.out, _, rfl, ?_⟩
      unfold platsP
      rw [HW.out]
      exact HO3.out

end Go.Proofs.Ytgjjjnofdjhikaa
