/- Several texts in one. -/
import Derived.Test.YtgjjjnofdjhikaaDefG9
import Derived.BigQuiet
/- Chapter 9: the tags of the days of a time, day by day and turn by turn: the same. No walk. -/
namespace Go.Proofs.Ytgjjjnofdjhikaa
open Go.RowKit Go.Maps

/-- Compact of an ascending list: strictly ascending, with the same members. -/
theorem cu_okI {l : List Int} (hl : l.Pairwise fun x y => x ≤ y) : ∀ m ≤ l.length, (Lib.compactUpTo l.toArray m).Pairwise (fun x y => x < y) ∧ ∀ x, x ∈ Lib.compactUpTo l.toArray m ↔ x ∈ l.take m
  | 0, _ => by simp [Lib.compactUpTo]
  | m + 1, hm => by
    obtain ⟨i1, i2⟩ := cu_okI hl m (by omega)
    have hz : l[m]? = some (l[m]'(by omega)) := List.getElem?_eq_getElem (by omega)
    have hg : l.toArray[m]! = l[m]'(by omega) := by rw [getElem!_pos _ _ (by simp; omega)]; rfl
    rw [Lib.compactUpTo_succ, take_step hz]
    by_cases hk : Lib.keeps l.toArray m = true
    · rw [if_pos hk, hg]
      refine ⟨?_, fun x => by rw [List.mem_append, List.mem_append, i2 x]⟩
      rw [List.pairwise_append]
      refine ⟨i1, List.pairwise_singleton _ _, fun x hx y hy => ?_⟩
      obtain rfl := List.mem_singleton.1 hy
      rw [i2 x] at hx
      obtain ⟨i, hi, rfl⟩ := List.mem_iff_getElem.1 hx
      rw [List.length_take] at hi
      rw [List.getElem_take]
      have hle := List.pairwise_iff_getElem.1 hl i m (by omega) (by omega) (by omega)
      refine Int.lt_iff_le_and_ne.2 ⟨hle, fun e => ?_⟩
      have hm0 : m ≠ 0 := by omega
      have hk2 : l.toArray[m]! ≠ l.toArray[m - 1]! := by
        simp only [Lib.keeps, decide_eq_true_eq] at hk
        rcases hk with h | h
        · exact absurd h hm0
        · exact h
      apply hk2
      have hg2 : l.toArray[m - 1]! = l[m - 1]'(by omega) := by rw [getElem!_pos _ _ (by simp; omega)]; rfl
      rw [hg, hg2]
      have h1 : l[m - 1]'(by omega) ≤ l[m]'(by omega) := List.pairwise_iff_getElem.1 hl (m - 1) m (by omega) (by omega) (by omega)
      have h2 : l[i]'(by omega) ≤ l[m - 1]'(by omega) := by
        rcases Nat.lt_or_ge i (m - 1) with h | h
        · exact List.pairwise_iff_getElem.1 hl i (m - 1) (by omega) (by omega) h
        · have : i = m - 1 := by omega
          subst this
          exact Int.le_refl _
      exact Int.le_antisymm (e ▸ h2) h1
    · rw [if_neg hk, List.append_nil]
      refine ⟨i1, fun x => ?_⟩
      rw [i2 x, List.mem_append]
      constructor
      · exact fun h => .inl h
      · rintro (h | h)
        · exact h
        · obtain rfl := List.mem_singleton.1 h
          have hk2 : m ≠ 0 ∧ l.toArray[m]! = l.toArray[m - 1]! := by
            simp only [Lib.keeps, decide_eq_true_eq] at hk
            exact ⟨fun h => hk (.inl h), Classical.byContradiction fun h => hk (.inr h)⟩
          have hg2 : l.toArray[m - 1]! = l[m - 1]'(by omega) := by rw [getElem!_pos _ _ (by simp; omega)]; rfl
          have e := hk2.2
          rw [hg, hg2] at e
          rw [e]
          have h0 := hk2.1
          exact List.mem_iff_getElem.2 ⟨m - 1, by rw [List.length_take]; omega, by rw [List.getElem_take]⟩
theorem compact_okI (l : List Int) : (Lib.compact (l.mergeSort fun x y => decide (x ≤ y))).Pairwise (fun x y => x < y) ∧ ∀ x, x ∈ Lib.compact (l.mergeSort fun x y => decide (x ≤ y)) ↔ x ∈ l := by
  have hasc : (l.mergeSort fun x y => decide (x ≤ y)).Pairwise fun x y => x ≤ y := by
    have := List.pairwise_mergeSort (le := fun x y : Int => decide (x ≤ y)) (fun a b c h1 h2 => by simp at *; omega) (fun a b => by simp; omega) l
    refine this.imp ?_
    intro a b h
    simpa using h
  obtain ⟨h1, h2⟩ := cu_okI hasc _ (Nat.le_refl _)
  refine ⟨h1, fun x => ?_⟩
  have := h2 x
  rw [List.take_length] at this
  rw [Lib.compact, this]
  exact (List.mergeSort_perm l _).mem_iff
/-- Spans. -/
structure Sp where
  f : Int
  t : Int
  g : Int
def spR (out : List Sp) (d g : Int) : List Sp := match out.getLast? with
  | some x => if x.g = g then out.dropLast ++ [⟨x.f, d, x.g⟩] else out ++ [⟨d, d, g⟩]
  | none => [⟨d, d, g⟩]
def spP (b : Int) (out : List Sp) (d g : Int) : List Sp := match out.getLast? with
  | some x => if x.g = g then out else out.dropLast ++ [⟨x.f, d - 1, x.g⟩] ++ [⟨d, b, g⟩]
  | none => [⟨d, b, g⟩]
theorem spR_nil (d g : Int) : spR [] d g = [⟨d, d, g⟩] := rfl
theorem spR_one (I : List Sp) (x : Sp) (d g : Int) : spR (I ++ [x]) d g = if x.g = g then I ++ [⟨x.f, d, x.g⟩] else I ++ [x] ++ [⟨d, d, g⟩] := by simp [spR]
theorem spP_nil (b d g : Int) : spP b [] d g = [⟨d, b, g⟩] := rfl
theorem spP_one (b : Int) (I : List Sp) (x : Sp) (d g : Int) : spP b (I ++ [x]) d g = if x.g = g then I ++ [x] else I ++ [⟨x.f, d - 1, x.g⟩] ++ [⟨d, b, g⟩] := by simp [spP]
def histR (T : Int → Int) (a : Int) : Nat → List Sp
  | 0 => []
  | k + 1 => spR (histR T a k) (a + k) (T (a + k))
def progH (T : Int → Int) (b : Int) (D : List Int) : List Sp := D.foldl (fun out d => spP b out d (T d)) []
def dl (a : Int) (k : Nat) : List Int := (List.range k).map fun (i : Nat) => a + i
theorem dl_step (a : Int) (k : Nat) : dl a (k + 1) = dl a k ++ [a + (k : Int)] := by simp [dl, List.range_succ]
theorem mem_dl (a : Int) (k : Nat) (d : Int) : d ∈ dl a k ↔ a ≤ d ∧ d < a + k := by
  unfold dl
  rw [List.mem_map]
  constructor
  · rintro ⟨i, hi, rfl⟩
    rw [List.mem_range] at hi
    omega
  · rintro ⟨h1, h2⟩
    exact ⟨(d - a).toNat, List.mem_range.2 (by omega), by omega⟩
theorem dl_asc (a : Int) (k : Nat) : (dl a k).Pairwise fun x y => x < y := by
  unfold dl
  rw [List.pairwise_map]
  refine List.Pairwise.imp ?_ (List.pairwise_lt_range (n := k))
  intro x y h
  omega
theorem flt1 {D : List Int} {x : Int} (h : x ∈ D) : [x].filter (fun d => D.contains d) = [x] := by simp [h]
theorem flt0 {D : List Int} {x : Int} (h : x ∉ D) : [x].filter (fun d => D.contains d) = [] := by simp [h]
theorem hist_inv {T : Int → Int} {a b : Int} {D : List Int} (ha : a ∈ D) (hT : ∀ d, a < d → d ≤ b → d ∉ D → T d = T (d - 1)) : ∀ k : Nat, (k : Int) ≤ b - a → ∃ (I : List Sp) (f : Int), progH T b ((dl a (k + 1)).filter fun d => D.contains d) = I ++ [⟨f, b, T (a + k)⟩] ∧ histR T a (k + 1) = I ++ [⟨f, a + k, T (a + k)⟩]
  | 0, _ => by
    refine ⟨[], a, ?_, ?_⟩
    · simp [dl, progH, ha, spP]
    · simp [histR, spR]
  | k + 1, hk => by
    obtain ⟨I, f, h1, h2⟩ := hist_inv ha hT k (by omega)
    have hR : histR T a (k + 1 + 1) = spR (I ++ [⟨f, a + k, T (a + k)⟩]) (a + (k + 1 : Nat)) (T (a + (k + 1 : Nat))) := by rw [← h2]; rfl
    rw [hR, dl_step, List.filter_append, spR_one]
    have hd : a + ((k + 1 : Nat) : Int) - 1 = a + k := by omega
    by_cases hm : a + ((k + 1 : Nat) : Int) ∈ D
    · have e := flt1 hm
      have hP : progH T b ((dl a (k + 1)).filter (fun d => D.contains d) ++ [a + ((k + 1 : Nat) : Int)]) = spP b (I ++ [⟨f, b, T (a + k)⟩]) (a + (k + 1 : Nat)) (T (a + (k + 1 : Nat))) := by
        rw [← h1]
        simp [progH]
      rw [e, hP, spP_one]
      dsimp only
      by_cases hg : T (a + k) = T (a + ((k + 1 : Nat) : Int))
      · rw [if_pos hg, if_pos hg]
        exact ⟨I, f, by rw [hg], by rw [hg]⟩
      · rw [if_neg hg, if_neg hg, hd]
        exact ⟨I ++ [⟨f, a + k, T (a + k)⟩], a + ((k + 1 : Nat) : Int), rfl, rfl⟩
    · have e := flt0 hm
      have hg := hT _ (by omega) (by omega) hm
      rw [hd] at hg
      rw [e, List.append_nil, h1]
      dsimp only
      rw [if_pos hg.symm]
      exact ⟨I, f, by rw [hg], by rw [hg]⟩
theorem hist_same {T : Int → Int} {a b : Int} {D : List Int} (hab : a ≤ b) (ha : a ∈ D) (hD : D.Pairwise fun x y => x < y) (hin : ∀ d ∈ D, a ≤ d ∧ d ≤ b) (hT : ∀ d, a < d → d ≤ b → d ∉ D → T d = T (d - 1)) : progH T b D = histR T a (b - a + 1).toNat := by
  have hN : (b - a + 1).toNat = (b - a).toNat + 1 := by omega
  obtain ⟨I, f, h1, h2⟩ := hist_inv ha hT (b - a).toNat (by omega)
  have e : ((dl a ((b - a).toNat + 1)).filter fun d => D.contains d) = D := by
    refine int_asc_unique ((dl_asc _ _).filter _) hD fun d => ?_
    rw [List.mem_filter, mem_dl]
    constructor
    · rintro ⟨-, h⟩
      simpa using h
    · intro h
      have := hin d h
      exact ⟨by omega, by simpa using h⟩
  rw [e] at h1
  rw [hN, h1, h2]
  have : a + (((b - a).toNat : Nat) : Int) = b := by omega
  rw [this]
/-- The days on which a tag may turn. -/
def turn2 (a b : Int) (x : Ev) : List Int := [x.d, x.d + 8].filter fun d => inR a b d
def turnsL (l : List Ev) (a b : Int) : List Int := Lib.compact ((a :: l.flatMap (turn2 a b)).mergeSort fun x y => decide (x ≤ y))
def tagT (l : List Ev) (p : ByteArray) (d : Int) : Int := tagR (reasonsR (l.filter (upF d)) p d)
theorem mem_turns {l : List Ev} {a b d : Int} : d ∈ turnsL l a b ↔ d = a ∨ ∃ x ∈ l, (d = x.d ∨ d = x.d + 8) ∧ a ≤ d ∧ d ≤ b := by
  unfold turnsL
  rw [(compact_okI _).2, List.mem_cons, List.mem_flatMap]
  constructor
  · rintro (h | ⟨x, hx, h⟩)
    · exact .inl h
    · unfold turn2 at h
      rw [List.mem_filter, inR_iff] at h
      exact .inr ⟨x, hx, by simpa using h.1, h.2⟩
  · rintro (h | ⟨x, hx, h1, h2⟩)
    · exact .inl h
    · refine .inr ⟨x, hx, ?_⟩
      unfold turn2
      rw [List.mem_filter, inR_iff]
      exact ⟨by simpa using h1, h2⟩
theorem tag_still {l : List Ev} {p : ByteArray} {d : Int} (h : ∀ x ∈ l, x.d ≠ d ∧ x.d + 8 ≠ d) : tagT l p d = tagT l p (d - 1) := by
  unfold tagT
  have e : l.filter (upF d) = l.filter (upF (d - 1)) := by
    refine List.filter_congr fun x hx => ?_
    have := (h x hx).1
    unfold upF
    rw [Bool.eq_iff_iff, decide_eq_true_iff, decide_eq_true_iff]
    omega
  rw [e]
  have hU : ∀ x ∈ l.filter (upF (d - 1)), x.d + 8 ≠ d := fun x hx => (h x (List.mem_filter.1 hx).1).2
  generalize l.filter (upF (d - 1)) = U at hU
  have hf : freshB U p d = freshB U p (d - 1) := by
    unfold freshB
    split
    · split
      · rename_i x hx
        have := hU x (List.mem_of_getElem? hx)
        rw [Bool.eq_iff_iff, decide_eq_true_iff, decide_eq_true_iff]
        omega
      · rfl
    · rfl
  unfold reasonsR
  rw [hf]
theorem hist_all {l : List Ev} {p : ByteArray} {a b : Int} (hab : a ≤ b) : progH (tagT l p) b (turnsL l a b) = histR (tagT l p) a (b - a + 1).toNat := by
  refine hist_same hab (mem_turns.2 (.inl rfl)) (compact_okI _).1 (fun d hd => ?_) fun d h1 h2 hd => tag_still fun x hx => ⟨fun e => ?_, fun e => ?_⟩
  · rcases mem_turns.1 hd with rfl | ⟨x, -, -, h⟩
    · omega
    · exact h
  · exact hd (mem_turns.2 (.inr ⟨x, hx, .inl e.symm, by omega, h2⟩))
  · exact hd (mem_turns.2 (.inr ⟨x, hx, .inr e.symm, by omega, h2⟩))

end Go.Proofs.Ytgjjjnofdjhikaa

/- Chapter 9, walks: daysError and turns of the program. -/
namespace Go.Proofs.Ytgjjjnofdjhikaa
open Go.RowKit Go.Maps Go.WideShapes Go.Deep Go.Sort

/-- The error of the days of a time. -/
def dErr (a b : Int) : Int := if (dayB a && dayB b) = true then (if b < a then 10 else 0) else 2
set_option maxHeartbeats 1000000 in
theorem daysError_any (a b : Int) (w : World) :
    Calls Try.prog 54 #[.int .i64 a, .int .i64 b] w fun e w' => Below w.heap.size w w' ∧ e = .returned (.int .i64 (dErr a b)) := by
  obtain ⟨b1, e1⟩ : ∃ v, dayB a = v := ⟨_, rfl⟩
  obtain ⟨b2, e2⟩ : ∃ v, dayB b = v := ⟨_, rfl⟩
  have B1 := Lib.hid e1
  have B2 := Lib.hid e2
  unfold dErr
  rw [e1, e2]
  clear e1 e2
  cases b1
  · rw [if_neg (by simp)]
    go_enter Try.func54, Try.ntmps54
    go_wp2_with (first | (go_at_call 68; with_reducible refine (isDay_b B1.out _).mono ?_; rintro e w1 ⟨hb1, rfl⟩; have oz1 := hb1.size) | (go_at_call 68; with_reducible refine (isDay_b B2.out _).mono ?_; rintro e w2 ⟨hb2, rfl⟩; have oz2 := hb2.size))
    go_ret
    exact ⟨(by repeat (first | with_reducible exact Below.refl _ _ | with_reducible assumption | with_reducible refine Below.drew ?_ | with_reducible refine Below.drewN ?_ _ | with_reducible refine Below.alloc2 ?_ _ | with_reducible refine Below.alloc ?_ (by first | omega | (simp <;> omega)) _ | with_reducible refine Below.setCell ?_ (by first | omega | (simp <;> omega)) _ | with_reducible refine Below.step2 (by with_reducible assumption) ?_ | with_reducible refine Below.step (by with_reducible assumption) ?_ (by first | omega | (simp <;> omega)))), rfl⟩
  cases b2
  · rw [if_neg (by simp)]
    go_enter Try.func54, Try.ntmps54
    go_wp2_with (first | (go_at_call 68; with_reducible refine (isDay_b B1.out _).mono ?_; rintro e w1 ⟨hb1, rfl⟩; have oz1 := hb1.size) | (go_at_call 68; with_reducible refine (isDay_b B2.out _).mono ?_; rintro e w2 ⟨hb2, rfl⟩; have oz2 := hb2.size))
    go_ret
    exact ⟨(by repeat (first | with_reducible exact Below.refl _ _ | with_reducible assumption | with_reducible refine Below.drew ?_ | with_reducible refine Below.drewN ?_ _ | with_reducible refine Below.alloc2 ?_ _ | with_reducible refine Below.alloc ?_ (by first | omega | (simp <;> omega)) _ | with_reducible refine Below.setCell ?_ (by first | omega | (simp <;> omega)) _ | with_reducible refine Below.step2 (by with_reducible assumption) ?_ | with_reducible refine Below.step (by with_reducible assumption) ?_ (by first | omega | (simp <;> omega)))), rfl⟩
  rw [if_pos (by rfl)]
  by_cases h : b < a
  · rw [if_pos h]
    go_enter Try.func54, Try.ntmps54
    go_wp2_with (first | (go_at_call 68; with_reducible refine (isDay_b B1.out _).mono ?_; rintro e w1 ⟨hb1, rfl⟩; have oz1 := hb1.size) | (go_at_call 68; with_reducible refine (isDay_b B2.out _).mono ?_; rintro e w2 ⟨hb2, rfl⟩; have oz2 := hb2.size))
    go_ret
    exact ⟨(by repeat (first | with_reducible exact Below.refl _ _ | with_reducible assumption | with_reducible refine Below.drew ?_ | with_reducible refine Below.drewN ?_ _ | with_reducible refine Below.alloc2 ?_ _ | with_reducible refine Below.alloc ?_ (by first | omega | (simp <;> omega)) _ | with_reducible refine Below.setCell ?_ (by first | omega | (simp <;> omega)) _ | with_reducible refine Below.step2 (by with_reducible assumption) ?_ | with_reducible refine Below.step (by with_reducible assumption) ?_ (by first | omega | (simp <;> omega)))), rfl⟩
  · rw [if_neg h]
    go_enter Try.func54, Try.ntmps54
    go_wp2_with (first | (go_at_call 68; with_reducible refine (isDay_b B1.out _).mono ?_; rintro e w1 ⟨hb1, rfl⟩; have oz1 := hb1.size) | (go_at_call 68; with_reducible refine (isDay_b B2.out _).mono ?_; rintro e w2 ⟨hb2, rfl⟩; have oz2 := hb2.size))
    go_ret
    exact ⟨(by repeat (first | with_reducible exact Below.refl _ _ | with_reducible assumption | with_reducible refine Below.drew ?_ | with_reducible refine Below.drewN ?_ _ | with_reducible refine Below.alloc2 ?_ _ | with_reducible refine Below.alloc ?_ (by first | omega | (simp <;> omega)) _ | with_reducible refine Below.setCell ?_ (by first | omega | (simp <;> omega)) _ | with_reducible refine Below.step2 (by with_reducible assumption) ?_ | with_reducible refine Below.step (by with_reducible assumption) ?_ (by first | omega | (simp <;> omega)))), rfl⟩

theorem compact_lenI (l : List Int) : (Lib.compact l).length ≤ l.length := by
  unfold Lib.compact Lib.compactUpTo
  rw [List.length_map]
  exact Nat.le_trans (List.length_filter_le _ _) (by simp)
/-- slices.Compact over a row that the call owns. -/
theorem compI_any {w : World} {base n : Nat} {v : Value} {l : List Int} (h : w.ownsRow base 3 1 v n (i64s l)) (hn : n ≤ 1000000) :
    Calls Try.prog 76 #[v] w fun e w' => ∃ v', e = .returned v' ∧ w'.ownsRow base 3 1 v' (Lib.compact l).length (i64s (Lib.compact l)) ∧ w.grownBy w' v.ownBlock := by
  have hl : l.length = n := by have := h.1; rw [i64s_length] at this; omega
  have hle := compact_lenI l
  rcases h.2 with ⟨rfl, rfl⟩ | ⟨g, cap, cur, rfl, hbg, hh, hnc, hm, hs, hx⟩
  · refine (Try.slices_Compact_int_empty none 0 w).mono ?_
    rintro e w' ⟨rfl, rfl⟩
    obtain rfl : l = [] := List.eq_nil_of_length_eq_zero hl
    exact ⟨_, rfl, (by rw [show Lib.compact ([] : List Int) = [] from rfl]; exact h), ⟨rfl, rfl, rfl, Nat.le_refl _, fun _ _ _ => rfl⟩⟩
  · have hg : g < w.heap.size := (Array.getElem?_eq_some_iff.1 hh).1
    have ht : cur.toList.take l.length = l.map (Value.int .i64) := by rw [hl, ← Nat.mul_one n]; exact hx
    have e1 : (Value.slice (some ⟨g, 0, none⟩) n cap) = .slice (some ⟨g, 0, none⟩) l.length cap := by simp [hl]
    rw [e1]
    refine (Try.slices_Compact_int g 0 cap l w (holds_of_blockI hh ht) (by omega) (by omega)).mono ?_
    rintro e w' ⟨rfl, q, rfl⟩
    have hlen : (Lib.compact l ++ List.replicate (l.length - (Lib.compact l).length) 0).length = l.length := by simp; omega
    refine ⟨_, rfl, ?_, ?_⟩
    · have := ownsRow_sortedI (w := w) (n := q) (os := #[]) (e := 3) (ts := Lib.compact l ++ List.replicate (l.length - (Lib.compact l).length) 0) (ss := l) hlen hbg hh (by omega) hm hs
      rw [Sort.grow_empty] at this
      have h2 := own_cut this hle
      rw [show (List.map (Value.int .i64) (Lib.compact l ++ List.replicate (l.length - (Lib.compact l).length) 0)).take (Lib.compact l).length = i64s (Lib.compact l) by rw [List.map_append, i64s]; exact List.take_left' (by simp)] at h2
      exact h2
    · have := grownBy_sortedI (w := w) (g := g) (n := q) (os := #[]) (Lib.compact l ++ List.replicate (l.length - (Lib.compact l).length) 0).toArray
      rwa [Sort.grow_empty] at this


theorem own_one {w : World} {base g e : Nat} {u : Value} (hb : Bk w g e #[u]) (hg : base ≤ g) : w.ownsRow base e 1 (.slice (some ⟨g, 0, none⟩) 1 1) 1 [u] :=
  ⟨rfl, .inr ⟨g, 1, #[u], rfl, hg, hb, Nat.le_refl _, by unfold maxLen; omega, rfl, rfl⟩⟩
section
variable {w : World} {base : Nat} {ops : Array Oper} {rest : List Oper} {o : Oper} {a : Act} {Q : Exit → Act → World → Prop}
/-- A number, behind a row of the call's own: and where the row lies. -/
theorem app_j {W : List Int} {vw : Value} (h : w.ownsRow base 3 1 vw W.length (i64s W)) (hgd : o.guard = none) (s x : Operand) (ho : o.op = .call { callee := .builtin .append, args := #[s, x], argTypes := #[40, 40] })
    (hs : a.eval s = vw) (y : Int) (B : Nat) (hx : a.eval x = .slice (some ⟨B, 0, none⟩) 1 1) (hB : Bk w B 3 #[.int .i64 y]) (hn : W.length ≤ 30000) (hbase : base ≤ w.heap.size)
    (hK : ∀ v' w', w'.ownsRow base 3 1 v' (W ++ [y]).length (i64s (W ++ [y])) → w.grownBy w' vw.ownBlock → (v'.ownBlock = vw.ownBlock ∨ v'.ownBlock = some w.heap.size) → wpList Try.prog ops Q rest (a.put o.dst v') w') : wpList Try.prog ops Q (o :: rest) a w := by
  obtain ⟨i0, z, hi0, hz0, hzs, hz1, hz2⟩ := info_cells info_int9
  exact wpList_append_own_at w hgd s x _ ho base 3 i0 z 1 8 Try.underlying40 hi0 hz0 hz1 hz2 hzs (by omega) vw W.length (i64s W) hs h ⟨B, 0, none⟩ 1 1 [.int .i64 y] hx rfl (World.news_of_block (fr := (0, 0)) hB) (by intro u hu; simp at hu; subst hu; rfl) (by unfold maxLen; omega) (by omega) hbase fun v' w' h1 h2 _ h4 => hK v' w' (by simpa [i64s] using h1) h2 h4
end
/-- What has been collected among the first events, and of the next one. -/
def tuK (l : List Ev) (a b : Int) (k : Nat) : List Int := a :: (l.take k).flatMap (turn2 a b)
def tuJ (l : List Ev) (a b : Int) (k : Nat) (x : Ev) (j : Nat) : List Int := tuK l a b k ++ (([x.d, x.d + 8].take j).filter fun d => inR a b d)
theorem tuK_step {l : List Ev} {a b : Int} {k : Nat} {x : Ev} (hx : l[k]? = some x) : tuJ l a b k x 2 = tuK l a b (k + 1) := by
  unfold tuJ tuK
  rw [take_step hx, List.flatMap_append]
  simp [turn2]
theorem tuK_len (l : List Ev) (a b : Int) (k : Nat) : (tuK l a b k).length ≤ 2 * k + 1 := by
  unfold tuK
  rw [List.length_cons, List.length_flatMap]
  have : ∀ L : List Ev, (L.map fun x => (turn2 a b x).length).sum ≤ 2 * L.length := by
    intro L
    induction L with
    | nil => simp
    | cons x r ih =>
      have h := List.length_filter_le (fun d => inR a b d) [x.d, x.d + 8]
      simp only [List.map_cons, List.sum_cons, List.length_cons]
      unfold turn2 at ih ⊢
      simp at h
      omega
  have h1 := this (l.take k)
  have h2 : (l.take k).length ≤ k := by rw [List.length_take]; omega
  omega
theorem tuJ_len (l : List Ev) (a b : Int) (k : Nat) (x : Ev) (j : Nat) : (tuJ l a b k x j).length ≤ 2 * k + 3 := by
  unfold tuJ
  rw [List.length_append]
  have h1 := tuK_len l a b k
  have h2 := List.length_filter_le (fun d => inR a b d) ([x.d, x.d + 8].take j)
  have h3 : ([x.d, x.d + 8].take j).length ≤ 2 := by rw [List.length_take]; simp; omega
  omega
theorem tuJ_1 (l : List Ev) (a b : Int) (k : Nat) (x : Ev) : tuJ l a b k x 1 = tuJ l a b k x 0 ++ if inR a b x.d = true then [x.d] else [] := by
  unfold tuJ
  by_cases h : inR a b x.d = true <;> simp [h]
theorem tuJ_2 (l : List Ev) (a b : Int) (k : Nat) (x : Ev) : tuJ l a b k x 2 = tuJ l a b k x 1 ++ if inR a b (x.d + 8) = true then [x.d + 8] else [] := by
  unfold tuJ
  by_cases h : inR a b x.d = true <;> by_cases h2 : inR a b (x.d + 8) = true <;> simp [h, h2]
set_option maxRecDepth 100000 in
set_option maxHeartbeats 8000000 in
theorem turns_any (A : Option Addr) (n c : Nat) (l : List Ev) (a b : Int) (w : World) (h : Rws Ev.cs 6 w w.heap.size A n c l) (hn : n ≤ 400) (hd : ∀ x ∈ l, 0 ≤ x.d ∧ x.d ≤ 1000000000) :
    Calls Try.prog 56 #[.slice A n c, .int .i64 a, .int .i64 b] w fun e w' => Below w.heap.size w w' ∧ ∃ v, e = .returned v ∧ w'.ownsRow w.heap.size 3 1 v (turnsL l a b).length (i64s (turnsL l a b)) := by
  have hcap := h.cap
  have hmax := h.max
  have HLEN := Lib.hid h.len
  have HD := Lib.hid hd
  have H : Hid (∀ w', Below w.heap.size w w' → Rws Ev.cs 6 w' w.heap.size A n c l) := fun w' hb => h.below hb (Nat.le_refl _) (Nat.le_refl _)
  clear h hd
  go_enter Try.func56, Try.ntmps56
  go_wp2
  go_loopw [7, 9, 11, 16] (fun vo _ _ i wr => ∃ (k : Nat) (W : List Int), k ≤ n ∧ i = .int .i64 k ∧ Hid (tuK l a b k = W) ∧ wr.ownsRow w.heap.size 3 1 vo W.length (i64s W) ∧ Below w.heap.size w wr) (fun _ _ _ i _ => n - (intOf i).toNat)
  case atStart => exact ⟨0, [a], Nat.zero_le _, rfl, Lib.hid rfl, own_one (Bk.at_ rfl) (Nat.le_refl _), (by repeat (first | with_reducible exact Below.refl _ _ | with_reducible assumption | with_reducible refine Below.drew ?_ | with_reducible refine Below.drewN ?_ _ | with_reducible refine Below.alloc2 ?_ _ | with_reducible refine Below.alloc ?_ (by first | omega | (simp <;> omega)) _ | with_reducible refine Below.setCell ?_ (by first | omega | (simp <;> omega)) _ | with_reducible refine Below.step2 (by with_reducible assumption) ?_ | with_reducible refine Below.step (by with_reducible assumption) ?_ (by first | omega | (simp <;> omega))))⟩
  case round =>
    obtain ⟨k, W, hk, rfl, HW, hown, hb⟩ := hrel
    have HB := Lib.hid hb
    have HOWN := Lib.hid hown
    have ow := hb.size
    have hwl : W.length ≤ 1000 := by have := tuK_len l a b k; rw [HW.out] at this; omega
    clear hown
    by_cases hlt : k < n
    · obtain ⟨bb, o, ⟨xd, xk, xp, xn, xs, xg⟩, rfl, hbb, hx, c0, c1, c2, c3, c4, c5⟩ := (H.out _ hb).ev hlt
      dsimp only at c0 c1 c2 c3 c4 c5
      have HX := Lib.hid hx
      have hxd := HD.out _ (List.mem_of_getElem? hx)
      dsimp only at hxd
      have hw1 : IntKind.i64.wrap (xd + 7) = xd + 7 := IntWalk.i64_in _ (by omega)
      have hw2 : IntKind.i64.wrap (xd + 7 + 1) = xd + 8 := by rw [IntWalk.i64_in _ (by omega)]; omega
      clear hx
      obtain ⟨wo, rfl⟩ : ∃ x, x = wr := ⟨_, rfl⟩
      go_wp2
      obtain ⟨w9, hw9⟩ : ∃ x, x = (wo.alloc (.cells #[.int .i64 xd, .int .i64 xk, .string xp, .int .i64 xn, .bool xs, .bool xg] 24)).alloc (.cells #[.int .i64 xd, .int .i64 (xd + 8)] 3) := ⟨_, rfl⟩
      rw [← hw9]
      have HK9 : Hid (Bk w9 (wo.heap.size + 1) 3 #[.int .i64 xd, .int .i64 (xd + 8)]) := Lib.hid (by rw [hw9]; exact Bk.at_ (by simp))
      have HB9 : Hid (Below w.heap.size w w9) := Lib.hid (by rw [hw9]; exact (HB.out.alloc HB.out.size _).alloc (by simp; omega) _)
      have os9 : w9.heap.size = wo.heap.size + 1 + 1 := by rw [hw9]; simp
      have HO9 : Hid (w9.ownsRow w.heap.size 3 1 u7 W.length (i64s W)) := Lib.hid (by rw [hw9]; exact own_step HOWN.out (((Below.refl _ wo).alloc (Nat.le_refl _) _).alloc (by simp) _))
      have HJ0 : Hid (tuJ l a b k ⟨xd, xk, xp, xn, xs, xg⟩ 0 = W) := Lib.hid (by rw [← HW.out]; simp [tuJ])
      have HNE0 : Hid (some (wo.heap.size + 1) ≠ u7.ownBlock) := Lib.hid (fun e => by have := (HOWN.out.lt _ e.symm).2; omega)
      clear hw9 c0 c1 c2 c3 c4 c5
      go_loopw [7, 11, 28] (fun vo _ q wq => ∃ (j : Nat) (z : Int) (R : List Int), j ≤ 2 ∧ z = j ∧ q = .int .i64 z ∧ Hid (tuJ l a b k ⟨xd, xk, xp, xn, xs, xg⟩ j = R) ∧ wq.ownsRow w.heap.size 3 1 vo R.length (i64s R) ∧ Hid (Bk wq (wo.heap.size + 1) 3 #[.int .i64 xd, .int .i64 (xd + 8)]) ∧ Hid (some (wo.heap.size + 1) ≠ vo.ownBlock) ∧ Below w.heap.size w wq) (fun _ _ q _ => 2 - (intOf q).toNat)
      case atStart => exact ⟨0, 0, W, Nat.zero_le _, rfl, rfl, HJ0, HO9.out, HK9, HNE0, HB9.out⟩
      case round =>
        obtain ⟨wq, rfl⟩ : ∃ x, x = wr := ⟨_, rfl⟩
        obtain ⟨j, z, R, hj, hz, rfl, HR, hown2, HK, HNE, hbq⟩ := hrel
        have HBQ := Lib.hid hbq
        have HO := Lib.hid hown2
        have okk := HK.out.lt
        have hrl : R.length ≤ 1000 := by have := tuJ_len l a b k ⟨xd, xk, xp, xn, xs, xg⟩ j; rw [HR.out] at this; omega
        obtain ⟨⟨q0, q1⟩, -⟩ := HK.out.two
        clear hown2 hbq
        have hj3 : j = 0 ∨ j = 1 ∨ j = 2 := by omega
        rcases hj3 with rfl | rfl | rfl
        · have e : z = 0 := by simpa using hz
          clear hz
          subst e
          obtain ⟨v, hv⟩ : ∃ v, inR a b (xd) = v := ⟨_, rfl⟩
          have HRV := Lib.hid hv
          have HT : Hid (tuJ l a b k ⟨xd, xk, xp, xn, xs, xg⟩ (0 + 1) = R ++ if v = true then [xd] else []) := Lib.hid (by rw [← HR.out, ← hv]; exact tuJ_1 l a b k ⟨xd, xk, xp, xn, xs, xg⟩)
          clear hv
          cases v
          · go_wp2_with (go_at_call 69; with_reducible refine (areFrom_one a b (xd) _ _ ?_ _ HRV.out).mono ?_; (focus (simp; done)); rintro e w' ⟨rfl, rfl⟩)
            go_roundw
            case rel => exact ⟨0 + 1, 0 + 1, R, by omega, by rfl, by rfl, Lib.hid (HT.out.trans (by simp)), own_step HO.out (by exact (by repeat (first | with_reducible exact Below.refl _ _ | with_reducible assumption | with_reducible refine Below.drew ?_ | with_reducible refine Below.drewN ?_ _ | with_reducible refine Below.alloc2 ?_ _ | with_reducible refine Below.alloc ?_ (by first | omega | (simp <;> omega)) _ | with_reducible refine Below.setCell ?_ (by first | omega | (simp <;> omega)) _ | with_reducible refine Below.step2 (by with_reducible assumption) ?_ | with_reducible refine Below.step (by with_reducible assumption) ?_ (by first | omega | (simp <;> omega))))), Lib.hid (HK.out.below (D := wq.heap.size) (by exact (by repeat (first | with_reducible exact Below.refl _ _ | with_reducible assumption | with_reducible refine Below.drew ?_ | with_reducible refine Below.drewN ?_ _ | with_reducible refine Below.alloc2 ?_ _ | with_reducible refine Below.alloc ?_ (by first | omega | (simp <;> omega)) _ | with_reducible refine Below.setCell ?_ (by first | omega | (simp <;> omega)) _ | with_reducible refine Below.step2 (by with_reducible assumption) ?_ | with_reducible refine Below.step (by with_reducible assumption) ?_ (by first | omega | (simp <;> omega))))) HK.out.lt), HNE, (by have hb0 := HBQ.out; exact (by repeat (first | with_reducible exact Below.refl _ _ | with_reducible assumption | with_reducible refine Below.drew ?_ | with_reducible refine Below.drewN ?_ _ | with_reducible refine Below.alloc2 ?_ _ | with_reducible refine Below.alloc ?_ (by first | omega | (simp <;> omega)) _ | with_reducible refine Below.setCell ?_ (by first | omega | (simp <;> omega)) _ | with_reducible refine Below.step2 (by with_reducible assumption) ?_ | with_reducible refine Below.step (by with_reducible assumption) ?_ (by first | omega | (simp <;> omega)))))⟩
            case measure => simp [intOf]
          · go_wp2_with (first | (go_at_call 69; with_reducible refine (areFrom_one a b (xd) _ _ ?_ _ HRV.out).mono ?_; (focus (simp; done)); rintro e w' ⟨rfl, rfl⟩) | (at_builtin; go_loud (refine app_j (W := R) (base := w.heap.size) (vw := u7) ?_ rfl _ _ rfl rfl (xd) _ rfl ?_ (by omega) ?_ ?_; (exact own_step HO.out (by exact (by repeat (first | with_reducible exact Below.refl _ _ | with_reducible assumption | with_reducible refine Below.drew ?_ | with_reducible refine Below.drewN ?_ _ | with_reducible refine Below.alloc2 ?_ _ | with_reducible refine Below.alloc ?_ (by first | omega | (simp <;> omega)) _ | with_reducible refine Below.setCell ?_ (by first | omega | (simp <;> omega)) _ | with_reducible refine Below.step2 (by with_reducible assumption) ?_ | with_reducible refine Below.step (by with_reducible assumption) ?_ (by first | omega | (simp <;> omega)))))); (focus (exact (by repeat (first | with_reducible assumption | with_reducible exact Bk.at_ (by first | (simp; done) | omega) | with_reducible refine Bk.alloc ?_ _ | with_reducible refine Bk.drew ?_ | with_reducible refine Bk.drewN ?_ _ | with_reducible refine Bk.step (by with_reducible assumption) ?_ (by first | omega | (simp <;> omega)))))); (focus (have := HBQ.out.size; first | (simp; done) | (simp; omega) | omega)); intro v4 w4 ho4 hg4 hne4; have HNE4 : Hid (some (wo.heap.size + 1) ≠ v4.ownBlock) := Lib.hid (by rcases hne4 with e | e; (rw [e]; exact HNE.out); (rw [e]; intro q; injection q with q; have := HK.out.lt; simp at q; omega)); clear hne4; have HO4 := Lib.hid ho4; have HB4 : Hid (Below w.heap.size w w4) := Lib.hid (Below.grown_ (by have hb0 := HBQ.out; exact (by repeat (first | with_reducible exact Below.refl _ _ | with_reducible assumption | with_reducible refine Below.drew ?_ | with_reducible refine Below.drewN ?_ _ | with_reducible refine Below.alloc2 ?_ _ | with_reducible refine Below.alloc ?_ (by first | omega | (simp <;> omega)) _ | with_reducible refine Below.setCell ?_ (by first | omega | (simp <;> omega)) _ | with_reducible refine Below.step2 (by with_reducible assumption) ?_ | with_reducible refine Below.step (by with_reducible assumption) ?_ (by first | omega | (simp <;> omega))))) hg4 (by have := HBQ.out.size; first | (simp; done) | (simp; omega) | omega) (fun q hq => (HO.out.lt q hq).1)); have HK4 : Hid (Bk w4 (wo.heap.size + 1) 3 #[.int .i64 xd, .int .i64 (xd + 8)]) := Lib.hid ((hg4.block _ (by have := HK.out.lt; simp; omega) HNE.out).trans (((HK.out.alloc _).alloc _))); clear ho4 hg4)))
            go_roundw
            case rel => exact ⟨0 + 1, 0 + 1, R ++ [xd], by omega, by rfl, by rfl, Lib.hid (HT.out.trans (by simp)), HO4.out, HK4, HNE4, HB4.out⟩
            case measure => simp [intOf]
        · have e : z = 1 := by simpa using hz
          clear hz
          subst e
          obtain ⟨v, hv⟩ : ∃ v, inR a b (xd + 8) = v := ⟨_, rfl⟩
          have HRV := Lib.hid hv
          have HT : Hid (tuJ l a b k ⟨xd, xk, xp, xn, xs, xg⟩ (1 + 1) = R ++ if v = true then [xd + 8] else []) := Lib.hid (by rw [← HR.out, ← hv]; exact tuJ_2 l a b k ⟨xd, xk, xp, xn, xs, xg⟩)
          clear hv
          cases v
          · go_wp2_with (go_at_call 69; with_reducible refine (areFrom_one a b (xd + 8) _ _ ?_ _ HRV.out).mono ?_; (focus (simp; done)); rintro e w' ⟨rfl, rfl⟩)
            go_roundw
            case rel => exact ⟨1 + 1, 1 + 1, R, by omega, by rfl, by rfl, Lib.hid (HT.out.trans (by simp)), own_step HO.out (by exact (by repeat (first | with_reducible exact Below.refl _ _ | with_reducible assumption | with_reducible refine Below.drew ?_ | with_reducible refine Below.drewN ?_ _ | with_reducible refine Below.alloc2 ?_ _ | with_reducible refine Below.alloc ?_ (by first | omega | (simp <;> omega)) _ | with_reducible refine Below.setCell ?_ (by first | omega | (simp <;> omega)) _ | with_reducible refine Below.step2 (by with_reducible assumption) ?_ | with_reducible refine Below.step (by with_reducible assumption) ?_ (by first | omega | (simp <;> omega))))), Lib.hid (HK.out.below (D := wq.heap.size) (by exact (by repeat (first | with_reducible exact Below.refl _ _ | with_reducible assumption | with_reducible refine Below.drew ?_ | with_reducible refine Below.drewN ?_ _ | with_reducible refine Below.alloc2 ?_ _ | with_reducible refine Below.alloc ?_ (by first | omega | (simp <;> omega)) _ | with_reducible refine Below.setCell ?_ (by first | omega | (simp <;> omega)) _ | with_reducible refine Below.step2 (by with_reducible assumption) ?_ | with_reducible refine Below.step (by with_reducible assumption) ?_ (by first | omega | (simp <;> omega))))) HK.out.lt), HNE, (by have hb0 := HBQ.out; exact (by repeat (first | with_reducible exact Below.refl _ _ | with_reducible assumption | with_reducible refine Below.drew ?_ | with_reducible refine Below.drewN ?_ _ | with_reducible refine Below.alloc2 ?_ _ | with_reducible refine Below.alloc ?_ (by first | omega | (simp <;> omega)) _ | with_reducible refine Below.setCell ?_ (by first | omega | (simp <;> omega)) _ | with_reducible refine Below.step2 (by with_reducible assumption) ?_ | with_reducible refine Below.step (by with_reducible assumption) ?_ (by first | omega | (simp <;> omega)))))⟩
            case measure => simp [intOf]
          · go_wp2_with (first | (go_at_call 69; with_reducible refine (areFrom_one a b (xd + 8) _ _ ?_ _ HRV.out).mono ?_; (focus (simp; done)); rintro e w' ⟨rfl, rfl⟩) | (at_builtin; go_loud (refine app_j (W := R) (base := w.heap.size) (vw := u7) ?_ rfl _ _ rfl rfl (xd + 8) _ rfl ?_ (by omega) ?_ ?_; (exact own_step HO.out (by exact (by repeat (first | with_reducible exact Below.refl _ _ | with_reducible assumption | with_reducible refine Below.drew ?_ | with_reducible refine Below.drewN ?_ _ | with_reducible refine Below.alloc2 ?_ _ | with_reducible refine Below.alloc ?_ (by first | omega | (simp <;> omega)) _ | with_reducible refine Below.setCell ?_ (by first | omega | (simp <;> omega)) _ | with_reducible refine Below.step2 (by with_reducible assumption) ?_ | with_reducible refine Below.step (by with_reducible assumption) ?_ (by first | omega | (simp <;> omega)))))); (focus (exact (by repeat (first | with_reducible assumption | with_reducible exact Bk.at_ (by first | (simp; done) | omega) | with_reducible refine Bk.alloc ?_ _ | with_reducible refine Bk.drew ?_ | with_reducible refine Bk.drewN ?_ _ | with_reducible refine Bk.step (by with_reducible assumption) ?_ (by first | omega | (simp <;> omega)))))); (focus (have := HBQ.out.size; first | (simp; done) | (simp; omega) | omega)); intro v4 w4 ho4 hg4 hne4; have HNE4 : Hid (some (wo.heap.size + 1) ≠ v4.ownBlock) := Lib.hid (by rcases hne4 with e | e; (rw [e]; exact HNE.out); (rw [e]; intro q; injection q with q; have := HK.out.lt; simp at q; omega)); clear hne4; have HO4 := Lib.hid ho4; have HB4 : Hid (Below w.heap.size w w4) := Lib.hid (Below.grown_ (by have hb0 := HBQ.out; exact (by repeat (first | with_reducible exact Below.refl _ _ | with_reducible assumption | with_reducible refine Below.drew ?_ | with_reducible refine Below.drewN ?_ _ | with_reducible refine Below.alloc2 ?_ _ | with_reducible refine Below.alloc ?_ (by first | omega | (simp <;> omega)) _ | with_reducible refine Below.setCell ?_ (by first | omega | (simp <;> omega)) _ | with_reducible refine Below.step2 (by with_reducible assumption) ?_ | with_reducible refine Below.step (by with_reducible assumption) ?_ (by first | omega | (simp <;> omega))))) hg4 (by have := HBQ.out.size; first | (simp; done) | (simp; omega) | omega) (fun q hq => (HO.out.lt q hq).1)); have HK4 : Hid (Bk w4 (wo.heap.size + 1) 3 #[.int .i64 xd, .int .i64 (xd + 8)]) := Lib.hid ((hg4.block _ (by have := HK.out.lt; simp; omega) HNE.out).trans (((HK.out.alloc _).alloc _))); clear ho4 hg4)))
            go_roundw
            case rel => exact ⟨1 + 1, 1 + 1, R ++ [xd + 8], by omega, by rfl, by rfl, Lib.hid (HT.out.trans (by simp)), HO4.out, HK4, HNE4, HB4.out⟩
            case measure => simp [intOf]
        · have e : z = 2 := by simpa using hz
          clear hz
          subst e
          have HN : Hid (tuK l a b (k + 1) = R) := Lib.hid ((tuK_step HX.out).symm.trans HR.out)
          go_wp2
          go_roundw
          case rel => exact ⟨k + 1, R, by omega, by go_num, HN, HO.out, HBQ.out⟩
          case measure => simp [intOf]; omega
    · obtain rfl : k = n := by omega
      have HW2 : Hid (turnsL l a b = Lib.compact (W.mergeSort fun x y => decide (x ≤ y))) := Lib.hid (by rw [← HW.out]; unfold tuK turnsL; rw [List.take_of_length_le (by rw [HLEN.out]; omega)])
      clear hb
      go_wp2_with (first
        | (go_at_call 51; go_loud (refine (sortI_any HOWN.out (by omega)).mono ?_); rintro e w2 ⟨rfl, ho2, hg2⟩; have HO2 := Lib.hid ho2; have HB2 : Hid (Below w.heap.size w w2) := Lib.hid (Below.grown_ HB.out hg2 HB.out.size (fun q hq => (HOWN.out.lt q hq).1)); have HLT : Hid (∀ q, u7.ownBlock = some q → w.heap.size ≤ q) := Lib.hid (fun q hq => (HOWN.out.lt q hq).1); clear ho2 hg2)
        | (go_at_call 76; go_loud (refine (compI_any HO2.out (by omega)).mono ?_); rintro e w3 ⟨v3, rfl, ho3, hg3⟩; have HO3 := Lib.hid ho3; have HB3 : Hid (Below w.heap.size w w3) := Lib.hid (Below.grown_ HB2.out hg3 HB2.out.size (fun q hq => HLT.out q hq)); clear ho3 hg3))
      go_ret
      exact ⟨HB3.out, _, rfl, by rw [HW2.out]; exact HO3.out⟩

end Go.Proofs.Ytgjjjnofdjhikaa

/- Chapter 9: rows of spans that the call owns: append one, set the end of the last one. -/
namespace Go.Proofs.Ytgjjjnofdjhikaa
open Go.RowKit Go.Maps Go.WideShapes Go.Deep

def Sp.cs (x : Sp) : List Value := [.int .i64 x.f, .int .i64 x.t, .int .i64 x.g]
def spc (l : List Sp) : List Value := l.flatMap Sp.cs
theorem spc_len (l : List Sp) : (spc l).length = l.length * 3 := by
  unfold spc
  induction l with
  | nil => rfl
  | cons x r ih => rw [List.flatMap_cons, List.length_append, ih, List.length_cons]; simp [Sp.cs]; omega
theorem spc_snoc (I : List Sp) (x : Sp) : spc (I ++ [x]) = spc I ++ x.cs := by simp [spc]
theorem info_sp : (Try.prog.info? 71).map (fun i => (i.zero.map (·.cells.size), i.size, i.bytes)) = some (some 3, 3, 24) := by kernel_rfl
theorem Bk.three {w : World} {g t : Nat} {a b c : Value} (h : Bk w g t #[a, b, c]) : (w.cell? ⟨g, 0, none⟩ = some a ∧ w.cell? ⟨g, 1, none⟩ = some b ∧ w.cell? ⟨g, 2, none⟩ = some c) :=
  ⟨by simpa using h.cell 0, by simpa using h.cell 1, by simpa using h.cell 2⟩
section
variable {w : World} {base : Nat} {ops : Array Oper} {rest : List Oper} {o : Oper} {a : Act} {Q : Exit → Act → World → Prop}
theorem app_sp {W : List Sp} {vw : Value} (h : w.ownsRow base 71 3 vw W.length (spc W)) (hgd : o.guard = none) (s x : Operand) (ho : o.op = .call { callee := .builtin .append, args := #[s, x], argTypes := #[53, 53] })
    (hs : a.eval s = vw) (y : Sp) (B : Nat) (hx : a.eval x = .slice (some ⟨B, 0, none⟩) 1 1) (hB : Bk w B 71 #[.int .i64 y.f, .int .i64 y.t, .int .i64 y.g]) (hn : W.length ≤ 30000) (hbase : base ≤ w.heap.size)
    (hK : ∀ v' w', w'.ownsRow base 71 3 v' (W ++ [y]).length (spc (W ++ [y])) → w.grownBy w' vw.ownBlock → wpList Try.prog ops Q rest (a.put o.dst v') w') : wpList Try.prog ops Q (o :: rest) a w := by
  obtain ⟨i0, z, hi0, hz0, hzs, hz1, hz2⟩ := info_cells info_sp
  refine wpList_append_own_at w hgd s x _ ho base 71 i0 z 3 24 Try.underlying53 hi0 hz0 hz1 hz2 hzs (by omega) vw W.length (spc W) hs h ⟨B, 0, none⟩ 1 1 y.cs hx rfl (World.news_of_block (fr := (0, 0)) hB) (by intro u hu; simp [Sp.cs] at hu; rcases hu with rfl | rfl | rfl <;> rfl) (by unfold maxLen; omega) (by omega) hbase fun v' w' h1 h2 _ h4 => hK v' w' ?_ h2
  rw [spc_snoc, List.length_append]
  exact h1
end
/-- The form of a row that is not empty. -/
theorem own_form {w : World} {base e size n : Nat} {v : Value} {xs : List Value} (h : w.ownsRow base e size v n xs) (hn : 0 < n) : ∃ g cap cur, v = .slice (some ⟨g, 0, none⟩) n cap ∧ base ≤ g ∧ Bk w g e cur ∧ n ≤ cap ∧ cap ≤ maxLen ∧ cur.size = cap * size ∧ cur.toList.take (n * size) = xs := by
  rcases h.2 with ⟨-, h0⟩ | h
  · omega
  · exact h
theorem bk_row {w : World} {g e m : Nat} {cur : Array Value} {xs : List Value} (hb : Bk w g e cur) (hx : cur.toList.take m = xs) : ∀ j u, xs[j]? = some u → w.cell? ⟨g, j, none⟩ = some u := by
  intro j u hu
  rw [hb.cell]
  rw [← hx, List.getElem?_take] at hu
  split at hu
  · simpa using hu
  · cases hu
theorem spc_at (I : List Sp) (x : Sp) (j : Nat) (u : Value) (h : x.cs[j]? = some u) : (spc (I ++ [x]))[I.length * 3 + j]? = some u := by
  rw [spc_snoc, List.getElem?_append_right (by rw [spc_len]; omega), spc_len]
  rw [show I.length * 3 + j - I.length * 3 = j by omega]
  exact h
theorem spc_set (I : List Sp) (x : Sp) (z : Int) : (spc (I ++ [x])).set (I.length * 3 + 1) (.int .i64 z) = spc (I ++ [⟨x.f, z, x.g⟩]) := by
  rw [spc_snoc, spc_snoc, List.set_append_right _ _ (by rw [spc_len]; omega), spc_len]
  rw [show I.length * 3 + 1 - I.length * 3 = 1 by omega]
  rfl
/-- The end of the last span is set. -/
theorem own_setT {w : World} {base g cap : Nat} {I : List Sp} {x : Sp} (h : w.ownsRow base 71 3 (.slice (some ⟨g, 0, none⟩) (I.length + 1) cap) (I.length + 1) (spc (I ++ [x]))) (z : Int) :
    (w.setCell ⟨g, I.length * 3 + 1, none⟩ (.int .i64 z)).ownsRow base 71 3 (.slice (some ⟨g, 0, none⟩) (I.length + 1) cap) (I.length + 1) (spc (I ++ [⟨x.f, z, x.g⟩])) := by
  obtain ⟨g', cap', cur, e1, hb, hg, hnc, hm, hs, hx⟩ := own_form h (by omega)
  injection e1 with e1 e2 e3
  injection e1 with e1
  injection e1 with e1 e4
  subst e1; subst e3
  refine ⟨by rw [spc_len]; simp, .inr ⟨g, cap, _, rfl, hb, Bk.set_ hg (I.length * 3 + 1) (.int .i64 z), hnc, hm, by simpa using hs, ?_⟩⟩
  rw [Array.toList_setIfInBounds, ← spc_set I x z, ← hx, List.take_set]

theorem own_last {w : World} {base g cap : Nat} {I : List Sp} {x : Sp} (h : w.ownsRow base 71 3 (.slice (some ⟨g, 0, none⟩) (I.length + 1) cap) (I.length + 1) (spc (I ++ [x]))) :
    w.cell? ⟨g, I.length * 3 + 1, none⟩ = some (.int .i64 x.t) ∧ w.cell? ⟨g, I.length * 3 + 2, none⟩ = some (.int .i64 x.g) ∧ w.frozen? ⟨g, I.length * 3 + 1, none⟩ = false ∧ g < w.heap.size := by
  obtain ⟨g', cap', cur, e1, hb, hg, hnc, hm, hs, hx⟩ := own_form h (by omega)
  injection e1 with e1 e2 e3
  injection e1 with e1
  injection e1 with e1 e4
  subst e1; subst e3
  exact ⟨bk_row hg hx _ _ (spc_at I x 1 _ rfl), bk_row hg hx _ _ (spc_at I x 2 _ rfl), hg.frozen _, hg.lt⟩
theorem own_slice {w : World} {base m : Nat} {v : Value} {xs : List Value} (h : w.ownsRow base 71 3 v (m + 1) xs) : ∃ g cap, v = .slice (some ⟨g, 0, none⟩) (m + 1) cap ∧ base ≤ g ∧ m + 1 ≤ cap ∧ cap ≤ 9223372036854775807 := by
  obtain ⟨g', cap', cur, e1, hb, hg, hnc, hm, hs, hx⟩ := own_form h (by omega)
  exact ⟨g', cap', e1, hb, hnc, by unfold maxLen at hm; omega⟩

end Go.Proofs.Ytgjjjnofdjhikaa

/- Chapter 9, walks: History of the program. -/
namespace Go.Proofs.Ytgjjjnofdjhikaa
open Go.RowKit Go.Maps Go.WideShapes Go.Deep

/-- The error of a record, of the days of a time, and of a platform. -/
def hErr (l : List Ev) (p : ByteArray) (a b : Int) : Int := if recErr l = 0 then (if dErr a b = 0 then (if inPl l p then 0 else 6) else dErr a b) else recErr l
set_option maxHeartbeats 4000000 in
theorem histP_bad (A : Option Addr) (n c : Nat) (l : List Ev) (p : ByteArray) (a b : Int) (w : World) (h : Rws Ev.cs 6 w w.heap.size A n c l) (hs : n ≤ 400 → ∀ x ∈ l, x.p.size ≤ 30) (ho : ∀ x ∈ l, evOk x) (E : Int) (hE : hErr l p a b = E) (h0 : E ≠ 0) :
    Calls Try.prog 28 #[.slice A n c, .string p, .int .i64 a, .int .i64 b] w fun e w' => Below w.heap.size w w' ∧ e = .returned (.tuple #[.slice none 0 0, .int .i64 E]) := by
  obtain ⟨T, hT⟩ : ∃ T, recErr l = T := ⟨_, rfl⟩
  obtain ⟨D, hD⟩ : ∃ D, dErr a b = D := ⟨_, rfl⟩
  have CR : Hid (Calls Try.prog 15 #[.slice A n c] w fun e w' => Below w.heap.size w w' ∧ e = .returned (.int .i64 T)) := Lib.hid (by
    have := checkRec_all A n c l w h hs ho
    rwa [hT] at this)
  have DE : Hid (∀ W, Calls Try.prog 54 #[.int .i64 a, .int .i64 b] W fun e w' => Below W.heap.size W w' ∧ e = .returned (.int .i64 D)) := Lib.hid fun W => by
    have := daysError_any a b W
    rwa [hD] at this
  have PEZ : Hid (T = 0 → ∀ W, Below w.heap.size w W → Calls Try.prog 55 #[.slice A n c, .string p] W fun e w' => Below W.heap.size W w' ∧ e = .returned (.int .i64 (if inPl l p then 0 else 6))) := Lib.hid fun h0 W hW =>
    platformError_any A n c l p W (h.below hW (Nat.le_refl _) hW.size) (hT.trans h0)
  unfold hErr at hE
  rw [hT, hD] at hE
  generalize inPl l p = ip at PEZ hE
  clear h hs ho hT hD
  by_cases hT0 : T = 0
  · rw [if_pos hT0] at hE
    subst hT0
    have PE := Lib.hid (PEZ.out rfl)
    clear PEZ
    by_cases hD0 : D = 0
    · rw [if_pos hD0] at hE
      subst hD0
      cases ip
      · obtain rfl : E = 6 := by simpa using hE.symm
        clear hE h0
        go_enter Try.func28, Try.ntmps28
        go_wp2_with (first | (go_at_call 15; refine CR.out.mono ?_; rintro e w1 ⟨hb1, rfl⟩; have HB1 := Lib.hid hb1; clear hb1) | (go_at_call 54; refine (DE.out _).mono ?_; rintro e w2 ⟨hb2, rfl⟩; have HB2 : Hid (Below w.heap.size w w2) := Lib.hid (HB1.out.trans (hb2.mono HB1.out.size)); clear hb2) | (go_at_call 55; refine (PE.out _ HB2.out).mono ?_; rintro e w3 ⟨hb3, rfl⟩; have HB3 : Hid (Below w.heap.size w w3) := Lib.hid (HB2.out.trans (hb3.mono HB2.out.size)); clear hb3))
        go_ret2
        exact ⟨HB3.out, rfl⟩
      · exact absurd hE.symm h0
    · rw [if_neg hD0] at hE
      subst hE
      have h0b : (D != 0) = true := by simpa using h0
      clear h0 hD0 PE
      go_enter Try.func28, Try.ntmps28
      go_wp2_with (first | (go_at_call 15; refine CR.out.mono ?_; rintro e w1 ⟨hb1, rfl⟩; have HB1 := Lib.hid hb1; clear hb1) | (go_at_call 54; refine (DE.out _).mono ?_; rintro e w2 ⟨hb2, rfl⟩; have HB2 : Hid (Below w.heap.size w w2) := Lib.hid (HB1.out.trans (hb2.mono HB1.out.size)); clear hb2))
      go_ret2
      exact ⟨HB2.out, rfl⟩
  · rw [if_neg hT0] at hE
    subst hE
    have h0b : (T != 0) = true := by simpa using h0
    clear h0 hT0 PEZ
    go_enter Try.func28, Try.ntmps28
    go_wp2_with (go_at_call 15; refine CR.out.mono ?_; rintro e w1 ⟨hb1, rfl⟩; have HB1 := Lib.hid hb1; clear hb1)
    go_ret2
    exact ⟨HB1.out, rfl⟩
theorem hErr_zero {l : List Ev} {p : ByteArray} {a b : Int} (h : hErr l p a b = 0) : recErr l = 0 ∧ dErr a b = 0 ∧ inPl l p = true := by
  unfold hErr at h
  split at h
  · rename_i h0
    split at h
    · rename_i h1
      split at h
      · rename_i h2
        exact ⟨h0, h1, h2⟩
      · cases h
    · contradiction
  · contradiction
theorem dErr_zero {a b : Int} (h : dErr a b = 0) : dayB a = true ∧ dayB b = true ∧ a ≤ b := by
  unfold dErr at h
  split at h
  · rename_i h1
    simp only [Bool.and_eq_true] at h1
    split at h
    · cases h
    · exact ⟨h1.1, h1.2, by omega⟩
  · cases h
theorem progH_step {T : Int → Int} {b : Int} {D : List Int} {k : Nat} {z : Int} (hx : D[k]? = some z) : progH T b (D.take (k + 1)) = spP b (progH T b (D.take k)) z (T z) := by
  rw [take_step hx]
  simp [progH]
theorem spP_len (b : Int) (out : List Sp) (d g : Int) : (spP b out d g).length ≤ out.length + 1 := by
  rcases List.eq_nil_or_concat out with rfl | ⟨I, x, rfl⟩
  · rw [spP_nil]; simp
  · rw [List.concat_eq_append, spP_one]
    split <;> simp
theorem progH_len (T : Int → Int) (b : Int) (D : List Int) : ∀ k, (progH T b (D.take k)).length ≤ k
  | 0 => by simp [progH]
  | k + 1 => by
    rcases Nat.lt_or_ge k D.length with h | h
    · rw [progH_step (List.getElem?_eq_getElem h)]
      have := spP_len b (progH T b (D.take k)) D[k] (T D[k])
      have := progH_len T b D k
      omega
    · rw [List.take_of_length_le (by omega), ← List.take_of_length_le (l := D) h]
      have := progH_len T b D k
      omega
theorem turns_len (l : List Ev) (a b : Int) : (turnsL l a b).length ≤ 2 * l.length + 1 := by
  unfold turnsL
  refine Nat.le_trans (compact_lenI _) ?_
  rw [(List.mergeSort_perm _ _).length_eq]
  have := tuK_len l a b l.length
  unfold tuK at this
  rwa [List.take_length] at this
set_option maxRecDepth 100000 in
set_option maxHeartbeats 8000000 in
theorem histP_ok (A : Option Addr) (n c : Nat) (l : List Ev) (p : ByteArray) (a b : Int) (w : World) (h : Rws Ev.cs 6 w w.heap.size A n c l) (hs : ∀ x ∈ l, x.p.size ≤ 30) (ho : ∀ x ∈ l, evOk x) (hE : hErr l p a b = 0) :
    Calls Try.prog 28 #[.slice A n c, .string p, .int .i64 a, .int .i64 b] w fun e w' => Below w.heap.size w w' ∧ ∃ v, e = .returned (.tuple #[v, .int .i64 0]) ∧ w'.ownsRow w.heap.size 71 3 v (histR (tagT l p) a (b - a + 1).toNat).length (spc (histR (tagT l p) a (b - a + 1).toNat)) := by
  obtain ⟨hR, hD, hP⟩ := hErr_zero hE
  obtain ⟨hda, hdb, hab⟩ := dErr_zero hD
  obtain ⟨ha0, ha1⟩ := dayB_iff.1 hda
  obtain ⟨hb0, hb1⟩ := dayB_iff.1 hdb
  have hn := recErr_small hR
  have HLN := h.len
  rw [HLN] at hn
  have CR : Hid (Calls Try.prog 15 #[.slice A n c] w fun e w' => Below w.heap.size w w' ∧ e = .returned (.int .i64 0)) := Lib.hid (by
    have := checkRec_all A n c l w h (fun _ => hs) ho
    rwa [hR] at this)
  have DE : Hid (∀ W, Calls Try.prog 54 #[.int .i64 a, .int .i64 b] W fun e w' => Below W.heap.size W w' ∧ e = .returned (.int .i64 0)) := Lib.hid fun W => by
    have := daysError_any a b W
    rwa [hD] at this
  have PE : Hid (∀ W, Below w.heap.size w W → Calls Try.prog 55 #[.slice A n c, .string p] W fun e w' => Below W.heap.size W w' ∧ e = .returned (.int .i64 0)) := Lib.hid fun W hW => by
    have := platformError_any A n c l p W (h.below hW (Nat.le_refl _) hW.size) hR
    rwa [hP] at this
  have TU : Hid (∀ W, Below w.heap.size w W → Calls Try.prog 56 #[.slice A n c, .int .i64 a, .int .i64 b] W fun e w' => Below W.heap.size W w' ∧ ∃ v, e = .returned v ∧ w'.ownsRow W.heap.size 3 1 v (turnsL l a b).length (i64s (turnsL l a b))) := Lib.hid fun W hW =>
    turns_any A n c l a b W (h.below hW (Nat.le_refl _) hW.size) hn (rec_days hR)
  have AG : Hid (∀ z W, Below w.heap.size w W → Calls Try.prog 48 #[.slice A n c, .string p, .int .i64 z] W fun e w' => Below W.heap.size W w' ∧ e = .returned (agV (l.filter (upF z)) p z)) := Lib.hid fun z W hW =>
    against_q A n c l p z W (h.below hW (Nat.le_refl _) hW.size) hs ho hR hP
  have TG : Hid (∀ z W, Calls Try.prog 49 #[agV (l.filter (upF z)) p z] W fun e w' => Below W.heap.size W w' ∧ e = .returned (.int .i64 (tagT l p z))) := Lib.hid fun z W => by
    have := tag_any (rB0 (l.filter (upF z)) p) (rB1 (l.filter (upF z)) p) (!freshB (l.filter (upF z)) p z) (decide (0 < (olistG true (l.filter (upF z)) p).length)) (decide (0 < (olistG false (l.filter (upF z)) p).length)) W
    rw [← tagR_rs] at this
    exact this
  have hbd : ∀ z ∈ turnsL l a b, a ≤ z ∧ z ≤ b := fun z hz => by
    rcases mem_turns.1 hz with rfl | ⟨x, -, -, h⟩
    · omega
    · exact h
  have htl := turns_len l a b
  rw [HLN] at htl
  rw [← hist_all hab]
  obtain ⟨V, hV⟩ : ∃ V : Int → Value, ∀ z, V z = agV (l.filter (upF z)) p z := ⟨_, fun _ => rfl⟩
  simp only [← hV] at AG TG
  have HBD := Lib.hid hbd
  have HPL : Hid (∀ k, (progH (tagT l p) b ((turnsL l a b).take k)).length ≤ k) := Lib.hid fun k => progH_len _ _ _ k
  generalize turnsL l a b = D at TU HBD HPL htl ⊢
  generalize tagT l p = T at TG HPL ⊢
  clear h hs ho hE hR hD hP hda hdb hbd HLN hV
  obtain ⟨N, hN⟩ : ∃ N, D.length = N := ⟨_, rfl⟩
  rw [hN] at TU htl
  have HNL := Lib.hid hN
  clear hN
  go_enter Try.func28, Try.ntmps28
  go_wp2_with (first | (go_at_call 15; refine CR.out.mono ?_; rintro e w1 ⟨hb1, rfl⟩; have HB1 := Lib.hid hb1; clear hb1) | (go_at_call 54; refine (DE.out _).mono ?_; rintro e w2 ⟨hb2, rfl⟩; have HB2 : Hid (Below w.heap.size w w2) := Lib.hid (HB1.out.trans (hb2.mono HB1.out.size)); clear hb2) | (go_at_call 55; refine (PE.out _ HB2.out).mono ?_; rintro e w3 ⟨hb3, rfl⟩; have HB3 : Hid (Below w.heap.size w w3) := Lib.hid (HB2.out.trans (hb3.mono HB2.out.size)); clear hb3) | (go_at_call 56; refine (TU.out _ HB3.out).mono ?_; rintro e w4 ⟨hb4, v, rfl, hown⟩; obtain ⟨A4, c4, rfl, -⟩ := Sl.of_own hown; have hnu : Nums w4 w4.heap.size A4 N c4 D := Nums.own (by rw [HNL.out]; exact hown); have HNU := Lib.hid hnu; have hcap4 := hnu.cap; have hmax4 := hnu.max; have HB4 : Hid (Below w.heap.size w w4) := Lib.hid (HB3.out.trans (hb4.mono HB3.out.size)); clear hb4 hown hnu))
  go_loopw [13, 15, 16, 17, 40] (fun v _ _ _ i wr => ∃ (k : Nat) (L : List Sp), k ≤ N ∧ i = .int .i64 k ∧ Hid (progH T b (D.take k) = L) ∧ wr.ownsRow w4.heap.size 71 3 v L.length (spc L) ∧ Below w4.heap.size w4 wr) (fun _ _ _ _ i _ => N - (intOf i).toNat)
  case atStart => exact ⟨0, [], Nat.zero_le _, rfl, Lib.hid rfl, World.ownsRow_nil _ _ _ _, Below.refl _ _⟩
  case round =>
    obtain ⟨k, L, hk, rfl, HL, hown, hb⟩ := hrel
    have HB := Lib.hid hb
    have HOWN := Lib.hid hown
    have ow := hb.size
    have hll : L.length ≤ 1000 := by have := HPL.out k; rw [HL.out] at this; omega
    clear hown
    by_cases hlt : k < N
    · obtain ⟨b4, o4, z, rfl, hbb, hz, hc⟩ := (HNU.out.below hb (Nat.le_refl _) hb.size).at_ hlt
      have hzb := HBD.out z (List.mem_of_getElem? hz)
      have HT := Lib.hid (progH_step (T := T) (b := b) hz)
      have HZ := Lib.hid hz
      have AGz := Lib.hid (AG.out z)
      have TGz := Lib.hid (TG.out z)
      obtain ⟨tz, htz⟩ : ∃ t, T z = t := ⟨_, rfl⟩
      have ob : b4 < wr.heap.size := by omega
      rw [HL.out, htz] at HT
      rw [htz] at TGz
      generalize V z = vz at AGz TGz
      clear hz hb htz
      rcases List.eq_nil_or_concat L with rfl | ⟨I, x, rfl⟩
      · have HN : Hid (progH T b (D.take (k + 1)) = [] ++ [⟨z, b, tz⟩]) := Lib.hid HT.out
        obtain ⟨A5, cq, rfl⟩ : ∃ A c, u13 = .slice A 0 c := (by obtain ⟨A', c', e, -⟩ := Sl.of_own HOWN.out; exact ⟨A', c', e⟩)
        go_wp2_with (first | (go_at_call 48; refine (AGz.out _ (by have hb0 := HB4.out.trans (HB.out.mono HB4.out.size); exact (by repeat (first | with_reducible exact Below.refl _ _ | with_reducible assumption | with_reducible refine Below.drew ?_ | with_reducible refine Below.drewN ?_ _ | with_reducible refine Below.alloc2 ?_ _ | with_reducible refine Below.alloc ?_ (by first | omega | (simp <;> omega)) _ | with_reducible refine Below.setCell ?_ (by first | omega | (simp <;> omega)) _ | with_reducible refine Below.step2 (by with_reducible assumption) ?_ | with_reducible refine Below.step (by with_reducible assumption) ?_ (by first | omega | (simp <;> omega)))))).mono ?_; rintro e w5 ⟨hb5, rfl⟩; have HB5 : Hid (Below w4.heap.size w4 w5) := Lib.hid (HB.out.trans (hb5.mono HB.out.size)); have HS5 := Lib.hid hb5; clear hb5) | (go_at_call 49; refine (TGz.out _).mono ?_; rintro e w6 ⟨hb6, rfl⟩; have HB6 : Hid (Below w4.heap.size w4 w6) := Lib.hid (HB5.out.trans (hb6.mono HB5.out.size)); have HO6 := Lib.hid (own_step HOWN.out (HS5.out.trans (hb6.mono HS5.out.size))); have ob6 := HB6.out.size; clear hb6) | (at_builtin; go_loud (refine app_sp (W := []) (base := w4.heap.size) (vw := .slice A5 0 cq) ?_ rfl _ _ rfl rfl ⟨z, b, tz⟩ _ rfl ?_ (by simp) ?_ ?_; (exact own_step HO6.out (by exact (by repeat (first | with_reducible exact Below.refl _ _ | with_reducible assumption | with_reducible refine Below.drew ?_ | with_reducible refine Below.drewN ?_ _ | with_reducible refine Below.alloc2 ?_ _ | with_reducible refine Below.alloc ?_ (by first | omega | (simp <;> omega)) _ | with_reducible refine Below.setCell ?_ (by first | omega | (simp <;> omega)) _ | with_reducible refine Below.step2 (by with_reducible assumption) ?_ | with_reducible refine Below.step (by with_reducible assumption) ?_ (by first | omega | (simp <;> omega)))))); (focus (exact Bk.at_ rfl)); (focus (first | (simp; done) | (simp; omega) | omega)); intro v7 w7 ho7 hg7; have HO7 := Lib.hid ho7; have HB7 : Hid (Below w4.heap.size w4 w7) := Lib.hid (Below.grown_ (by have hb0 := HB6.out; exact (by repeat (first | with_reducible exact Below.refl _ _ | with_reducible assumption | with_reducible refine Below.drew ?_ | with_reducible refine Below.drewN ?_ _ | with_reducible refine Below.alloc2 ?_ _ | with_reducible refine Below.alloc ?_ (by first | omega | (simp <;> omega)) _ | with_reducible refine Below.setCell ?_ (by first | omega | (simp <;> omega)) _ | with_reducible refine Below.step2 (by with_reducible assumption) ?_ | with_reducible refine Below.step (by with_reducible assumption) ?_ (by first | omega | (simp <;> omega))))) hg7 (by first | (simp; done) | (simp; omega) | omega) (fun q hq => (HOWN.out.lt q hq).1)); clear ho7 hg7)))
        go_roundw
        case rel => exact ⟨k + 1, _, by omega, by go_num, HN, HO7.out, HB7.out⟩
        case measure => simp [intOf]; omega
      · rw [List.concat_eq_append] at HOWN HT hll
        have HOW := HOWN.out
        have hln : (I ++ [x]).length = I.length + 1 := by simp
        rw [hln] at HOW hll
        obtain ⟨g, cap, rfl, hgb, hcp, hcm⟩ := own_slice HOW
        have HOWN := Lib.hid HOW
        obtain ⟨xf, xt, xg⟩ := x
        have HLN := Lib.hid hln
        have HT2 : Hid (progH T b (D.take (k + 1)) = if xg = tz then I ++ [⟨xf, xt, xg⟩] else I ++ [⟨xf, z - 1, xg⟩] ++ [⟨z, b, tz⟩]) := Lib.hid (HT.out.trans (spP_one _ _ _ _ _))
        obtain ⟨m, hm⟩ : ∃ m, I.length = m := ⟨_, rfl⟩
        have HM := Lib.hid hm
        have hw1 : IntKind.i64.wrap (((m + 1 : Nat) : Int) - 1) = (m : Int) := by rw [IntWalk.i64_in _ (by omega)]; omega
        have hw2 : IntKind.i64.wrap ((m : Int) + 1 - 1) = (m : Int) := by rw [IntWalk.i64_in _ (by omega)]; omega
        have hw3 : IntKind.i64.wrap (z - 1) = z - 1 := IntWalk.i64_in _ (by omega)
        have hd0 : decide ((m : Int) ≥ 0) = true := decide_eq_true (by omega)
        rw [hm] at hll hcp ⊢
        clear HOW hln hm HT
        by_cases hg : xg = tz
        · have HN : Hid (progH T b (D.take (k + 1)) = I ++ [⟨xf, xt, xg⟩]) := Lib.hid (HT2.out.trans (if_pos hg))
          have hgb2 : (xg == tz) = true := by simpa using hg
          clear hg HT2
          go_wp2_with (first | (go_at_call 48; refine (AGz.out _ (by have hb0 := HB4.out.trans (HB.out.mono HB4.out.size); exact (by repeat (first | with_reducible exact Below.refl _ _ | with_reducible assumption | with_reducible refine Below.drew ?_ | with_reducible refine Below.drewN ?_ _ | with_reducible refine Below.alloc2 ?_ _ | with_reducible refine Below.alloc ?_ (by first | omega | (simp <;> omega)) _ | with_reducible refine Below.setCell ?_ (by first | omega | (simp <;> omega)) _ | with_reducible refine Below.step2 (by with_reducible assumption) ?_ | with_reducible refine Below.step (by with_reducible assumption) ?_ (by first | omega | (simp <;> omega)))))).mono ?_; rintro e w5 ⟨hb5, rfl⟩; have HB5 : Hid (Below w4.heap.size w4 w5) := Lib.hid (HB.out.trans (hb5.mono HB.out.size)); have HS5 := Lib.hid hb5; clear hb5) | (go_at_call 49; refine (TGz.out _).mono ?_; rintro e w6 ⟨hb6, rfl⟩; have HB6 : Hid (Below w4.heap.size w4 w6) := Lib.hid (HB5.out.trans (hb6.mono HB5.out.size)); have HO6 := Lib.hid (own_step HOWN.out (HS5.out.trans (hb6.mono HS5.out.size))); have ob6 := HB6.out.size; obtain ⟨e1, e2, e3, e4⟩ := own_last HO6.out; rw [HM.out] at e1 e2 e3; clear hb6))
          go_roundw
          case rel => exact ⟨k + 1, I ++ [⟨xf, xt, xg⟩], by omega, by go_num, HN, (by have h6 := HO6.out; rw [HM.out] at h6; rw [HLN.out, HM.out]; exact h6), HB6.out⟩
          case measure => simp [intOf]; omega
        · have HN : Hid (progH T b (D.take (k + 1)) = I ++ [⟨xf, z - 1, xg⟩] ++ [⟨z, b, tz⟩]) := Lib.hid (HT2.out.trans (if_neg hg))
          have hgb2 : (xg == tz) = false := by simpa using hg
          have HLN2 : Hid ((I ++ [(⟨xf, z - 1, xg⟩ : Sp)]).length = m + 1) := Lib.hid (by rw [← HM.out]; simp)
          clear hg HT2
          go_wp2_with (first | (go_at_call 48; refine (AGz.out _ (by have hb0 := HB4.out.trans (HB.out.mono HB4.out.size); exact (by repeat (first | with_reducible exact Below.refl _ _ | with_reducible assumption | with_reducible refine Below.drew ?_ | with_reducible refine Below.drewN ?_ _ | with_reducible refine Below.alloc2 ?_ _ | with_reducible refine Below.alloc ?_ (by first | omega | (simp <;> omega)) _ | with_reducible refine Below.setCell ?_ (by first | omega | (simp <;> omega)) _ | with_reducible refine Below.step2 (by with_reducible assumption) ?_ | with_reducible refine Below.step (by with_reducible assumption) ?_ (by first | omega | (simp <;> omega)))))).mono ?_; rintro e w5 ⟨hb5, rfl⟩; have HB5 : Hid (Below w4.heap.size w4 w5) := Lib.hid (HB.out.trans (hb5.mono HB.out.size)); have HS5 := Lib.hid hb5; clear hb5) | (go_at_call 49; refine (TGz.out _).mono ?_; rintro e w6 ⟨hb6, rfl⟩; have HB6 : Hid (Below w4.heap.size w4 w6) := Lib.hid (HB5.out.trans (hb6.mono HB5.out.size)); have HO6 := Lib.hid (own_step HOWN.out (HS5.out.trans (hb6.mono HS5.out.size))); have ob6 := HB6.out.size; obtain ⟨e1, e2, e3, e4⟩ := own_last HO6.out; rw [HM.out] at e1 e2 e3; have HS7 : Hid ((w6.setCell ⟨g, m * 3 + 1, none⟩ (.int .i64 (z - 1))).ownsRow w4.heap.size 71 3 (.slice (some ⟨g, 0, none⟩) (m + 1) cap) (I ++ [(⟨xf, z - 1, xg⟩ : Sp)]).length (spc (I ++ [⟨xf, z - 1, xg⟩]))) := Lib.hid (by have h6 := own_setT HO6.out (z - 1); rw [HM.out] at h6; rw [HLN2.out]; exact h6); clear hb6) | (at_builtin; go_loud (refine app_sp (W := I ++ [⟨xf, z - 1, xg⟩]) (base := w4.heap.size) (vw := .slice (some ⟨g, 0, none⟩) (m + 1) cap) ?_ rfl _ _ rfl rfl ⟨z, b, tz⟩ _ rfl ?_ (by rw [HLN2.out]; omega) ?_ ?_; (exact own_step HS7.out ((Below.refl _ _).alloc (Nat.le_refl _) _)); (focus (exact Bk.at_ (by simp))); (focus (first | (simp; done) | (simp; omega) | omega)); intro v7 w7 ho7 hg7; have HO7 := Lib.hid ho7; have HB7 : Hid (Below w4.heap.size w4 w7) := Lib.hid (Below.grown_ ((HB6.out.setCell (by simp; omega) _).alloc (by simp; omega) _) hg7 (by simp; omega) (fun q hq => by simp [Value.ownBlock] at hq; omega)); clear ho7 hg7)))
          go_roundw
          case rel => exact ⟨k + 1, _, by omega, by go_num, HN, HO7.out, HB7.out⟩
          case measure => simp [intOf]; omega
    · obtain rfl : k = N := by omega
      have HF : Hid (progH T b D = L) := Lib.hid (by have := HL.out; rwa [List.take_of_length_le (by rw [HNL.out]; omega)] at this)
      clear hb
      go_wp2
      go_ret2
      exact ⟨HB4.out.trans (HB.out.mono HB4.out.size), _, rfl, by rw [HF.out]; exact own_base HOWN.out HB4.out.size⟩

end Go.Proofs.Ytgjjjnofdjhikaa

/- Chapter 9, walks: History of the reference. -/
namespace Go.Proofs.Ytgjjjnofdjhikaa
open Go.RowKit Go.Maps Go.WideShapes Go.Deep

theorem spR_len (out : List Sp) (d g : Int) : (spR out d g).length ≤ out.length + 1 := by
  rcases List.eq_nil_or_concat out with rfl | ⟨I, x, rfl⟩
  · rw [spR_nil]; simp
  · rw [List.concat_eq_append, spR_one]
    split <;> simp
theorem histR_len (T : Int → Int) (a : Int) : ∀ k, (histR T a k).length ≤ k
  | 0 => by simp [histR]
  | k + 1 => by
    have := spR_len (histR T a k) (a + k) (T (a + k))
    have := histR_len T a k
    rw [histR]
    omega
set_option maxRecDepth 100000 in
set_option maxHeartbeats 8000000 in
theorem histR_any (A : Option Addr) (n c : Nat) (l : List Ev) (p : ByteArray) (a b : Int) (w : World) (h : Rws Ev.cs 6 w w.heap.size A n c l) (hn : n ≤ 400) (hd : ∀ x ∈ l, 0 ≤ x.d ∧ x.d ≤ 1000000000) (ha0 : 0 ≤ a) (hab : a ≤ b) (hb1 : b ≤ 20000) :
    Calls Try.prog 30 #[.slice A n c, .string p, .int .i64 a, .int .i64 b] w fun e w' => Below w.heap.size w w' ∧ ∃ v, e = .returned v ∧ w'.ownsRow w.heap.size 71 3 v (histR (tagT l p) a (b - a + 1).toNat).length (spc (histR (tagT l p) a (b - a + 1).toNat)) := by
  have RS : Hid (∀ z, 0 ≤ z → z ≤ 20000 → ∀ W, Below w.heap.size w W → Calls Try.prog 24 #[.slice A n c, .string p, .int .i64 z] W fun e w' => Below W.heap.size W w' ∧ ∃ v, e = .returned v ∧ w'.ownsRow W.heap.size 3 1 v (reasonsR (l.filter (upF z)) p z).length (i64s (reasonsR (l.filter (upF z)) p z))) := Lib.hid fun z h0 h1 W hW =>
    reasonsR_any A n c l p z W (h.below hW (Nat.le_refl _) hW.size) hn hd h0 (by omega)
  obtain ⟨V, hV⟩ : ∃ V : Int → List Int, ∀ z, V z = reasonsR (l.filter (upF z)) p z := ⟨_, fun _ => rfl⟩
  have HTV : Hid (∀ z, tagR (V z) = tagT l p z) := Lib.hid fun z => by rw [hV]; rfl
  simp only [← hV] at RS
  have HHL : Hid (∀ k, (histR (tagT l p) a k).length ≤ k) := Lib.hid fun k => histR_len _ _ k
  have HST : Hid (∀ k, histR (tagT l p) a (k + 1) = spR (histR (tagT l p) a k) (a + k) (tagT l p (a + k))) := Lib.hid fun k => rfl
  have HZR : Hid (histR (tagT l p) a 0 = []) := Lib.hid rfl
  generalize tagT l p = T at HTV HHL HST HZR ⊢
  obtain ⟨K, hK⟩ : ∃ K, (b - a + 1).toNat = K := ⟨_, rfl⟩
  rw [hK]
  have hK2 : (K : Int) = b - a + 1 := by omega
  clear h hd hV hK
  go_enter Try.func30, Try.ntmps30
  go_wp2
  go_loopw [9, 10, 11, 12] (fun v d _ _ wr => ∃ (k : Nat) (L : List Sp), k ≤ K ∧ d = .int .i64 (a + k) ∧ Hid (histR T a k = L) ∧ wr.ownsRow w.heap.size 71 3 v L.length (spc L) ∧ Below w.heap.size w wr) (fun _ d _ _ _ => (b + 1 - intOf d).toNat)
  case atStart => exact ⟨0, [], Nat.zero_le _, by simp, HZR, World.ownsRow_nil _ _ _ _, Below.refl _ _⟩
  case round =>
    obtain ⟨k, L, hk, rfl, HL, hown, hb⟩ := hrel
    have HB := Lib.hid hb
    have HOWN := Lib.hid hown
    have ow := hb.size
    have hll : L.length ≤ 30000 := by have := HHL.out k; rw [HL.out] at this; omega
    clear hown hb
    by_cases hlt : k < K
    · have hle : decide (a + (k : Int) ≤ b) = true := decide_eq_true (by omega)
      have hw0 : IntKind.i64.wrap (a + (k : Int) + 1) = a + ((k + 1 : Nat) : Int) := by rw [IntWalk.i64_in _ (by omega)]; omega
      have RSz := Lib.hid (RS.out (a + k) (by omega) (by omega))
      have HT := Lib.hid (HST.out k)
      obtain ⟨tz, htz⟩ : ∃ t, T (a + k) = t := ⟨_, rfl⟩
      have HTZ : Hid (tagR (V (a + k)) = tz) := Lib.hid ((HTV.out _).trans htz)
      rw [HL.out, htz] at HT
      generalize V (a + (k : Int)) = LV at RSz HTZ
      clear htz
      rcases List.eq_nil_or_concat L with rfl | ⟨I, x, rfl⟩
      · have HN : Hid (histR T a (k + 1) = [] ++ [⟨a + k, a + k, tz⟩]) := Lib.hid HT.out
        obtain ⟨A6, cq, rfl⟩ : ∃ A c, u9 = .slice A 0 c := (by obtain ⟨A', c', e, -⟩ := Sl.of_own HOWN.out; exact ⟨A', c', e⟩)
        go_wp2_with (first | (go_at_call 24; refine (RSz.out _ (by have hb0 := HB.out; exact (by repeat (first | with_reducible exact Below.refl _ _ | with_reducible assumption | with_reducible refine Below.drew ?_ | with_reducible refine Below.drewN ?_ _ | with_reducible refine Below.alloc2 ?_ _ | with_reducible refine Below.alloc ?_ (by first | omega | (simp <;> omega)) _ | with_reducible refine Below.setCell ?_ (by first | omega | (simp <;> omega)) _ | with_reducible refine Below.step2 (by with_reducible assumption) ?_ | with_reducible refine Below.step (by with_reducible assumption) ?_ (by first | omega | (simp <;> omega)))))).mono ?_; rintro e w5 ⟨hb5, v, rfl, hown5⟩; obtain ⟨A5, c5, rfl⟩ := own_sl hown5; have HN5 := Lib.hid (Nums.own hown5); have HB5 : Hid (Below w.heap.size w w5) := Lib.hid (HB.out.trans (hb5.mono HB.out.size)); have HO5 := Lib.hid (own_step HOWN.out hb5); have ob5 := HB5.out.size; clear hb5 hown5) | (go_at_call 26; refine (tagR_any _ _ _ _ _ _ HN5.out).mono ?_; rw [HTZ.out]; rintro e w' ⟨rfl, rfl⟩) | (at_builtin; go_loud (refine app_sp (W := []) (base := w.heap.size) (vw := .slice A6 0 cq) ?_ rfl _ _ rfl rfl ⟨a + k, a + k, tz⟩ _ rfl ?_ (by simp) ?_ ?_; (exact own_step HO5.out (by exact (by repeat (first | with_reducible exact Below.refl _ _ | with_reducible assumption | with_reducible refine Below.drew ?_ | with_reducible refine Below.drewN ?_ _ | with_reducible refine Below.alloc2 ?_ _ | with_reducible refine Below.alloc ?_ (by first | omega | (simp <;> omega)) _ | with_reducible refine Below.setCell ?_ (by first | omega | (simp <;> omega)) _ | with_reducible refine Below.step2 (by with_reducible assumption) ?_ | with_reducible refine Below.step (by with_reducible assumption) ?_ (by first | omega | (simp <;> omega)))))); (focus (exact Bk.at_ rfl)); (focus (first | (simp; done) | (simp; omega) | omega)); intro v7 w7 ho7 hg7; have HO7 := Lib.hid ho7; have HB7 : Hid (Below w.heap.size w w7) := Lib.hid (Below.grown_ (by have hb0 := HB5.out; exact (by repeat (first | with_reducible exact Below.refl _ _ | with_reducible assumption | with_reducible refine Below.drew ?_ | with_reducible refine Below.drewN ?_ _ | with_reducible refine Below.alloc2 ?_ _ | with_reducible refine Below.alloc ?_ (by first | omega | (simp <;> omega)) _ | with_reducible refine Below.setCell ?_ (by first | omega | (simp <;> omega)) _ | with_reducible refine Below.step2 (by with_reducible assumption) ?_ | with_reducible refine Below.step (by with_reducible assumption) ?_ (by first | omega | (simp <;> omega))))) hg7 (by first | (simp; done) | (simp; omega) | omega) (fun q hq => (HOWN.out.lt q hq).1)); clear ho7 hg7)))
        go_roundw
        case rel => exact ⟨k + 1, _, by omega, by simp, HN, HO7.out, HB7.out⟩
        case measure => simp [intOf]; omega
      · rw [List.concat_eq_append] at HOWN HT hll
        have HOW := HOWN.out
        have hln : (I ++ [x]).length = I.length + 1 := by simp
        rw [hln] at HOW hll
        obtain ⟨g, cap, rfl, hgb, hcp, hcm⟩ := own_slice HOW
        have HOWN := Lib.hid HOW
        obtain ⟨xf, xt, xg⟩ := x
        have HLN := Lib.hid hln
        have HT2 : Hid (histR T a (k + 1) = if xg = tz then I ++ [⟨xf, a + k, xg⟩] else I ++ [⟨xf, xt, xg⟩] ++ [⟨a + k, a + k, tz⟩]) := Lib.hid (HT.out.trans (spR_one _ _ _ _))
        obtain ⟨m, hm⟩ : ∃ m, I.length = m := ⟨_, rfl⟩
        have HM := Lib.hid hm
        have hw1 : IntKind.i64.wrap (((m + 1 : Nat) : Int) - 1) = (m : Int) := by rw [IntWalk.i64_in _ (by omega)]; omega
        have hw2 : IntKind.i64.wrap ((m : Int) + 1 - 1) = (m : Int) := by rw [IntWalk.i64_in _ (by omega)]; omega
        have hd0 : decide (((m + 1 : Nat) : Int) > 0) = true := decide_eq_true (by omega)
        have hd1 : decide ((m : Int) + 1 > 0) = true := decide_eq_true (by omega)
        rw [hm] at hll hcp ⊢
        clear HOW hln hm HT
        by_cases hg : xg = tz
        · have HN : Hid (histR T a (k + 1) = I ++ [⟨xf, a + k, xg⟩]) := Lib.hid (HT2.out.trans (if_pos hg))
          have hgb2 : (xg == tz) = true := by simpa using hg
          clear hg HT2
          go_wp2_with (first | (go_at_call 24; refine (RSz.out _ (by have hb0 := HB.out; exact (by repeat (first | with_reducible exact Below.refl _ _ | with_reducible assumption | with_reducible refine Below.drew ?_ | with_reducible refine Below.drewN ?_ _ | with_reducible refine Below.alloc2 ?_ _ | with_reducible refine Below.alloc ?_ (by first | omega | (simp <;> omega)) _ | with_reducible refine Below.setCell ?_ (by first | omega | (simp <;> omega)) _ | with_reducible refine Below.step2 (by with_reducible assumption) ?_ | with_reducible refine Below.step (by with_reducible assumption) ?_ (by first | omega | (simp <;> omega)))))).mono ?_; rintro e w5 ⟨hb5, v, rfl, hown5⟩; obtain ⟨A5, c5, rfl⟩ := own_sl hown5; have HN5 := Lib.hid (Nums.own hown5); have HB5 : Hid (Below w.heap.size w w5) := Lib.hid (HB.out.trans (hb5.mono HB.out.size)); have HO5 := Lib.hid (own_step HOWN.out hb5); have ob5 := HB5.out.size; clear hb5 hown5) | (go_at_call 26; refine (tagR_any _ _ _ _ _ _ HN5.out).mono ?_; rw [HTZ.out]; rintro e w' ⟨rfl, rfl⟩; obtain ⟨e1, e2, e3, e4⟩ := own_last HO5.out; rw [HM.out] at e1 e2 e3; have HO8 : Hid (w5.ownsRow w.heap.size 71 3 (.slice (some ⟨g, 0, none⟩) (m + 1) cap) (I ++ [(⟨xf, xt, xg⟩ : Sp)]).length (spc (I ++ [⟨xf, xt, xg⟩]))) := Lib.hid (by have h5 := HO5.out; rw [HM.out] at h5; rw [HLN.out, HM.out]; exact h5); have HS8 : Hid ((w5.setCell ⟨g, m * 3 + 1, none⟩ (.int .i64 (a + k))).ownsRow w.heap.size 71 3 (.slice (some ⟨g, 0, none⟩) (m + 1) cap) (I ++ [(⟨xf, a + k, xg⟩ : Sp)]).length (spc (I ++ [⟨xf, a + k, xg⟩]))) := Lib.hid (by have h6 := own_setT HO5.out (a + k); rw [HM.out] at h6; rw [show (I ++ [(⟨xf, a + k, xg⟩ : Sp)]).length = m + 1 by rw [← HM.out]; simp]; exact h6)))
          go_roundw
          case rel => exact ⟨k + 1, _, by omega, by simp, HN, HS8.out, HB5.out.setCell hgb _⟩
          case measure => simp [intOf]; omega
        · have HN : Hid (histR T a (k + 1) = I ++ [⟨xf, xt, xg⟩] ++ [⟨a + k, a + k, tz⟩]) := Lib.hid (HT2.out.trans (if_neg hg))
          have hgb2 : (xg == tz) = false := by simpa using hg
          clear hg HT2
          go_wp2_with (first | (go_at_call 24; refine (RSz.out _ (by have hb0 := HB.out; exact (by repeat (first | with_reducible exact Below.refl _ _ | with_reducible assumption | with_reducible refine Below.drew ?_ | with_reducible refine Below.drewN ?_ _ | with_reducible refine Below.alloc2 ?_ _ | with_reducible refine Below.alloc ?_ (by first | omega | (simp <;> omega)) _ | with_reducible refine Below.setCell ?_ (by first | omega | (simp <;> omega)) _ | with_reducible refine Below.step2 (by with_reducible assumption) ?_ | with_reducible refine Below.step (by with_reducible assumption) ?_ (by first | omega | (simp <;> omega)))))).mono ?_; rintro e w5 ⟨hb5, v, rfl, hown5⟩; obtain ⟨A5, c5, rfl⟩ := own_sl hown5; have HN5 := Lib.hid (Nums.own hown5); have HB5 : Hid (Below w.heap.size w w5) := Lib.hid (HB.out.trans (hb5.mono HB.out.size)); have HO5 := Lib.hid (own_step HOWN.out hb5); have ob5 := HB5.out.size; clear hb5 hown5) | (go_at_call 26; refine (tagR_any _ _ _ _ _ _ HN5.out).mono ?_; rw [HTZ.out]; rintro e w' ⟨rfl, rfl⟩; obtain ⟨e1, e2, e3, e4⟩ := own_last HO5.out; rw [HM.out] at e1 e2 e3; have HO8 : Hid (w5.ownsRow w.heap.size 71 3 (.slice (some ⟨g, 0, none⟩) (m + 1) cap) (I ++ [(⟨xf, xt, xg⟩ : Sp)]).length (spc (I ++ [⟨xf, xt, xg⟩]))) := Lib.hid (by have h5 := HO5.out; rw [HM.out] at h5; rw [HLN.out, HM.out]; exact h5); have HS8 : Hid ((w5.setCell ⟨g, m * 3 + 1, none⟩ (.int .i64 (a + k))).ownsRow w.heap.size 71 3 (.slice (some ⟨g, 0, none⟩) (m + 1) cap) (I ++ [(⟨xf, a + k, xg⟩ : Sp)]).length (spc (I ++ [⟨xf, a + k, xg⟩]))) := Lib.hid (by have h6 := own_setT HO5.out (a + k); rw [HM.out] at h6; rw [show (I ++ [(⟨xf, a + k, xg⟩ : Sp)]).length = m + 1 by rw [← HM.out]; simp]; exact h6)) | (at_builtin; go_loud (refine app_sp (W := I ++ [⟨xf, xt, xg⟩]) (base := w.heap.size) (vw := .slice (some ⟨g, 0, none⟩) (m + 1) cap) ?_ rfl _ _ rfl rfl ⟨a + k, a + k, tz⟩ _ rfl ?_ (by rw [HLN.out, HM.out]; omega) ?_ ?_; (exact own_step HO8.out (by exact (by repeat (first | with_reducible exact Below.refl _ _ | with_reducible assumption | with_reducible refine Below.drew ?_ | with_reducible refine Below.drewN ?_ _ | with_reducible refine Below.alloc2 ?_ _ | with_reducible refine Below.alloc ?_ (by first | omega | (simp <;> omega)) _ | with_reducible refine Below.setCell ?_ (by first | omega | (simp <;> omega)) _ | with_reducible refine Below.step2 (by with_reducible assumption) ?_ | with_reducible refine Below.step (by with_reducible assumption) ?_ (by first | omega | (simp <;> omega)))))); (focus (exact Bk.at_ rfl)); (focus (first | (simp; done) | (simp; omega) | omega)); intro v7 w7 ho7 hg7; have HO7 := Lib.hid ho7; have HB7 : Hid (Below w.heap.size w w7) := Lib.hid (Below.grown_ (by have hb0 := HB5.out; exact (by repeat (first | with_reducible exact Below.refl _ _ | with_reducible assumption | with_reducible refine Below.drew ?_ | with_reducible refine Below.drewN ?_ _ | with_reducible refine Below.alloc2 ?_ _ | with_reducible refine Below.alloc ?_ (by first | omega | (simp <;> omega)) _ | with_reducible refine Below.setCell ?_ (by first | omega | (simp <;> omega)) _ | with_reducible refine Below.step2 (by with_reducible assumption) ?_ | with_reducible refine Below.step (by with_reducible assumption) ?_ (by first | omega | (simp <;> omega))))) hg7 (by first | (simp; done) | (simp; omega) | omega) (fun q hq => by simp [Value.ownBlock] at hq; omega)); clear ho7 hg7)))
          go_roundw
          case rel => exact ⟨k + 1, _, by omega, by simp, HN, HO7.out, HB7.out⟩
          case measure => simp [intOf]; omega
    · obtain rfl : k = K := by omega
      have hle : decide (a + (k : Int) ≤ b) = false := decide_eq_false (by omega)
      go_wp2
      go_ret
      exact ⟨HB.out, _, rfl, by rw [HL.out]; exact HOWN.out⟩

end Go.Proofs.Ytgjjjnofdjhikaa

/- Chapter 9, walks: spans of the law: two rows of spans that are one. -/
namespace Go.Proofs.Ytgjjjnofdjhikaa
open Go.RowKit Go.Maps Go.WideShapes Go.Deep

theorem sp_wide (x : Sp) : x.cs.length = 3 := rfl
theorem Rws.sp {w : World} {B n c k : Nat} {A : Option Addr} {l : List Sp} (h : Rws Sp.cs 3 w B A n c l) (hk : k < n) : ∃ b o x, A = some ⟨b, o, none⟩ ∧ b < B ∧ l[k]? = some x ∧ w.cell? ⟨b, o + k * 3, none⟩ = some (.int .i64 x.f) ∧ w.cell? ⟨b, o + k * 3 + 1, none⟩ = some (.int .i64 x.t) ∧ w.cell? ⟨b, o + k * 3 + 2, none⟩ = some (.int .i64 x.g) := by
  obtain ⟨b, o, x, e, hb, hx, hc⟩ := h.at_ sp_wide hk
  refine ⟨b, o, x, e, hb, hx, ?_, ?_, ?_⟩
  · have := hc 0 _ rfl
    rwa [Nat.add_zero] at this
  · have := hc 1 _ rfl
    rwa [← Nat.add_assoc] at this
  · have := hc 2 _ rfl
    rwa [← Nat.add_assoc] at this
theorem sp_own {w : World} {base e n : Nat} {v : Value} {l : List Sp} (h : w.ownsRow base e 3 v n (spc l)) (hl : l.length = n) : ∃ A c, v = .slice A n c ∧ Rws Sp.cs 3 w w.heap.size A n c l := Rws.of_own (f := Sp.cs) h hl
theorem sp_same (a b c : Int) (w : World) : (binOp .neq 71 (.agg #[.int .i64 a, .int .i64 b, .int .i64 c]) (.agg #[.int .i64 a, .int .i64 b, .int .i64 c])).run Try.prog w = .ok (.bool false) w := by
  go_simp
set_option maxRecDepth 100000 in
set_option maxHeartbeats 2000000 in
theorem spans_eq (A A2 : Option Addr) (n c c2 : Nat) (l : List Sp) (w : World) (h : Rws Sp.cs 3 w w.heap.size A n c l) (h2 : Rws Sp.cs 3 w w.heap.size A2 n c2 l) :
    Calls Try.prog 29 #[.slice A n c, .slice A2 n c2] w fun e w' => Below w.heap.size w w' ∧ e = .returned (.bool true) := by
  have hcap := h.cap
  have hmax := h.max
  have hcap2 := h2.cap
  have hmax2 := h2.max
  have H : Hid (∀ w', Below w.heap.size w w' → Rws Sp.cs 3 w' w.heap.size A n c l) := fun w' hb => h.below hb (Nat.le_refl _) (Nat.le_refl _)
  have H2 : Hid (∀ w', Below w.heap.size w w' → Rws Sp.cs 3 w' w.heap.size A2 n c2 l) := fun w' hb => h2.below hb (Nat.le_refl _) (Nat.le_refl _)
  clear h h2
  go_enter Try.func29, Try.ntmps29
  go_wp2
  go_loopw [5] (fun i wr => ∃ k : Nat, k ≤ n ∧ i = .int .i64 k ∧ Below w.heap.size w wr) (fun i _ => n - (intOf i).toNat)
  case atStart => exact ⟨0, Nat.zero_le _, rfl, (by repeat (first | with_reducible exact Below.refl _ _ | with_reducible assumption | with_reducible refine Below.drew ?_ | with_reducible refine Below.drewN ?_ _ | with_reducible refine Below.alloc2 ?_ _ | with_reducible refine Below.alloc ?_ (by first | omega | (simp <;> omega)) _ | with_reducible refine Below.setCell ?_ (by first | omega | (simp <;> omega)) _ | with_reducible refine Below.step2 (by with_reducible assumption) ?_ | with_reducible refine Below.step (by with_reducible assumption) ?_ (by first | omega | (simp <;> omega))))⟩
  case round =>
    obtain ⟨k, hk, rfl, hb⟩ := hrel
    have HB := Lib.hid hb
    have ow := hb.size
    by_cases hlt : k < n
    · obtain ⟨b, o, ⟨xf, xt, xg⟩, rfl, hbb, hx, c0, c1, c2⟩ := (H.out _ hb).sp hlt
      obtain ⟨b2, o2, x2, rfl, hbb2, hx2, d0, d1, d2⟩ := (H2.out _ hb).sp hlt
      obtain rfl : x2 = ⟨xf, xt, xg⟩ := by rw [hx] at hx2; exact (Option.some.inj hx2).symm
      dsimp only at c0 c1 c2 d0 d1 d2
      have z1 : (0 : Int) ≤ (k : Int) := by omega
      have z2 : (k : Int) < (n : Int) := by omega
      have hsame := sp_same xf xt xg
      clear hx hx2
      go_wp2
      go_quiet (fail)
      go_wp2
      go_roundw
      case rel => exact ⟨k + 1, by omega, by go_num, (by have hb0 := HB.out; exact (by repeat (first | with_reducible exact Below.refl _ _ | with_reducible assumption | with_reducible refine Below.drew ?_ | with_reducible refine Below.drewN ?_ _ | with_reducible refine Below.alloc2 ?_ _ | with_reducible refine Below.alloc ?_ (by first | omega | (simp <;> omega)) _ | with_reducible refine Below.setCell ?_ (by first | omega | (simp <;> omega)) _ | with_reducible refine Below.step2 (by with_reducible assumption) ?_ | with_reducible refine Below.step (by with_reducible assumption) ?_ (by first | omega | (simp <;> omega)))))⟩
      case measure => simp [intOf]; omega
    · go_wp2
      go_ret
      exact ⟨(by repeat (first | with_reducible exact Below.refl _ _ | with_reducible assumption | with_reducible refine Below.drew ?_ | with_reducible refine Below.drewN ?_ _ | with_reducible refine Below.alloc2 ?_ _ | with_reducible refine Below.alloc ?_ (by first | omega | (simp <;> omega)) _ | with_reducible refine Below.setCell ?_ (by first | omega | (simp <;> omega)) _ | with_reducible refine Below.step2 (by with_reducible assumption) ?_ | with_reducible refine Below.step (by with_reducible assumption) ?_ (by first | omega | (simp <;> omega)))), rfl⟩

end Go.Proofs.Ytgjjjnofdjhikaa
