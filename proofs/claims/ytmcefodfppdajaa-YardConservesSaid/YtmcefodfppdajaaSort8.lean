/- Chapter 8, walks: entries compared. -/
import Derived.Test.YtmcefodfppdajaaMany8
import Derived.Shelf.SlSortCmp.NoneTotal
import Derived.StillTailTactics
import Derived.Laws.Cover1
namespace Go.Proofs.Ytmcefodfppdajaa
open Go.RowKit Go.Lib Go.Sort

def cmpT (a b : ByteArray) : Int := if ltS a b then -1 else if ltS b a then 1 else 0
def cmpN (a b : Int) : Int := if a < b then -1 else if b < a then 1 else 0
def or3 (a b c : Int) : Int := if a ≠ 0 then a else if b ≠ 0 then b else c
def cmpE (x y : Q4) : Int := or3 (cmpT x.s y.s) (cmpN x.a y.a) (cmpN x.b y.b)
set_option maxHeartbeats 1000000 in
theorem nanT_any (a : ByteArray) (w : World) : Calls Try.prog 117 #[.string a] w fun e w' => w = w' ∧ e = .returned (.bool false) := by
  have h3 : (a.toList == a.toList) = true := by simp
  go_enter Try.func117, Try.ntmps117
  go_wp2
  go_ret
  exact ⟨rfl, rfl⟩
set_option maxHeartbeats 1000000 in
theorem nanN_any (a : Int) (w : World) : Calls Try.prog 105 #[.int .i64 a] w fun e w' => w = w' ∧ e = .returned (.bool false) := by
  go_enter Try.func105, Try.ntmps105
  go_wp2
  go_ret
  exact ⟨rfl, rfl⟩
set_option maxHeartbeats 1000000 in
theorem cmpT_any (a b : ByteArray) (w : World) : Calls Try.prog 103 #[.string a, .string b] w fun e w' => w = w' ∧ e = .returned (.int .i64 (cmpT a b)) := by
  obtain ⟨v1, h1⟩ : ∃ v, Op.bytesLess a.toList b.toList = v := ⟨_, rfl⟩
  obtain ⟨v2, h2⟩ : ∃ v, (a.toList == b.toList) = v := ⟨_, rfl⟩
  have h3 : (a.toList == a.toList) = true := by simp
  have h4 : (b.toList == b.toList) = true := by simp
  have HE : Hid (cmpT a b = if v1 then -1 else if v2 then 0 else 1) := Lib.hid (by
    unfold cmpT
    have q1 : ltS a b = v1 := h1
    rw [q1]
    cases v1
    · cases v2
      · have : ltS b a = true := by
          cases hh : ltS b a with
          | true => rfl
          | false => rw [ltS_tri q1 hh] at h2; simp at h2
        simp [this]
      · have : a = b := eqS_iff.1 h2
        subst this
        simp [ltS_irrefl]
    · rfl)
  cases v1 <;> cases v2
  all_goals
    go_enter Try.func103, Try.ntmps103
    go_wp2_with (go_at_call 117; with_reducible refine (nanT_any _ _).mono ?_; rintro e w' ⟨rfl, rfl⟩)
    go_ret
    exact ⟨rfl, ret_int (by rw [HE.out]; rfl)⟩

set_option maxHeartbeats 1000000 in
theorem cmpN_any (a b : Int) (w : World) : Calls Try.prog 94 #[.int .i64 a, .int .i64 b] w fun e w' => w = w' ∧ e = .returned (.int .i64 (cmpN a b)) := by
  rcases Int.lt_trichotomy a b with h | h | h
  · have HE : Hid (cmpN a b = -1) := Lib.hid (by simp [cmpN, h])
    go_enter Try.func94, Try.ntmps94
    go_wp2_with (go_at_call 105; with_reducible refine (nanN_any _ _).mono ?_; rintro e w' ⟨rfl, rfl⟩)
    go_ret
    exact ⟨rfl, ret_int HE.out.symm⟩
  · subst h
    have HE : Hid (cmpN a a = 0) := Lib.hid (by simp [cmpN])
    go_enter Try.func94, Try.ntmps94
    go_wp2_with (go_at_call 105; with_reducible refine (nanN_any _ _).mono ?_; rintro e w' ⟨rfl, rfl⟩)
    go_ret
    exact ⟨rfl, ret_int HE.out.symm⟩
  · have h1 : ¬ a < b := by omega
    have HE : Hid (cmpN a b = 1) := Lib.hid (by simp [cmpN, h, h1])
    go_enter Try.func94, Try.ntmps94
    go_wp2_with (go_at_call 105; with_reducible refine (nanN_any _ _).mono ?_; rintro e w' ⟨rfl, rfl⟩)
    go_ret
    exact ⟨rfl, ret_int HE.out.symm⟩
theorem or3_1 {a b c : Int} (h : a ≠ 0) : or3 a b c = a := by simp [or3, h]
theorem or3_2 {a b c : Int} (h : a = 0) (h2 : b ≠ 0) : or3 a b c = b := by simp [or3, h, h2]
theorem or3_3 {a b c : Int} (h : a = 0) (h2 : b = 0) : or3 a b c = c := by simp [or3, h, h2]
set_option maxHeartbeats 2000000 in
theorem or3_any (a b c : Int) (g : Nat) (w : World) (h : Bk w g 3 #[.int .i64 a, .int .i64 b, .int .i64 c]) : Calls Try.prog 102 #[.slice (some ⟨g, 0, none⟩) 3 3] w fun e w' => w = w' ∧ e = .returned (.int .i64 (or3 a b c)) := by
  obtain ⟨⟨c0, c1, c2⟩, -⟩ := h.three
  clear h
  obtain ⟨R, hR⟩ : ∃ R, or3 a b c = R := ⟨_, rfl⟩
  have HR := Lib.hid hR
  rw [hR]
  clear hR
  by_cases h1 : a = 0
  · have ab : (a != 0) = false := by simpa using h1
    have H1 := Lib.hid h1
    clear h1
    by_cases h2 : b = 0
    · have bb : (b != 0) = false := by simpa using h2
      have H2 := Lib.hid h2
      clear h2
      have H3 : Hid (c = R) := Lib.hid (by rw [← HR.out]; exact (or3_3 H1.out H2.out).symm)
      by_cases h3 : c = 0
      · have cb : (c != 0) = false := by simpa using h3
        have H4 : Hid (0 = R) := Lib.hid (by rw [← H3.out, h3])
        clear h3
        go_enter Try.func102, Try.ntmps102
        go_wp2
        refine wp_loop_rounds 4 ?_
        rw [rounds_succ]
        go_wp2
        rw [rounds_succ]
        go_wp2
        rw [rounds_succ]
        go_wp2
        rw [rounds_succ]
        go_wp2
        go_ret
        exact ⟨rfl, ret_int H4.out⟩
      · have cb : (c != 0) = true := by simpa using h3
        clear h3
        go_enter Try.func102, Try.ntmps102
        go_wp2
        refine wp_loop_rounds 4 ?_
        rw [rounds_succ]
        go_wp2
        rw [rounds_succ]
        go_wp2
        rw [rounds_succ]
        go_wp2
        go_ret
        exact ⟨rfl, ret_int H3.out⟩
    · have bb : (b != 0) = true := by simpa using h2
      have H3 : Hid (b = R) := Lib.hid (by rw [← HR.out]; exact (or3_2 H1.out h2).symm)
      clear h2
      go_enter Try.func102, Try.ntmps102
      go_wp2
      refine wp_loop_rounds 4 ?_
      rw [rounds_succ]
      go_wp2
      rw [rounds_succ]
      go_wp2
      go_ret
      exact ⟨rfl, ret_int H3.out⟩
  · have ab : (a != 0) = true := by simpa using h1
    have H3 : Hid (a = R) := Lib.hid (by rw [← HR.out]; exact (or3_1 h1).symm)
    clear h1
    go_enter Try.func102, Try.ntmps102
    go_wp2
    refine wp_loop_rounds 4 ?_
    rw [rounds_succ]
    go_wp2
    go_ret
    exact ⟨rfl, ret_int H3.out⟩
/-- Entries compared: two blocks and a row are laid. -/
theorem grow3 (w : World) (a b c : Obj) : (((w.alloc a).alloc b).alloc c).drew = grow (w.drewN 1) #[a, b, c] := by
  rw [alloc_eq_grow, alloc_eq_grow, alloc_eq_grow, grow_grow, grow_grow]
  rfl
theorem Bk.threes {w : World} {g t : Nat} {a b c d : Value} (h : Bk w g t #[a, b, c, d]) : w.cell? ⟨g, 0, none⟩ = some a ∧ w.cell? ⟨g, 1, none⟩ = some b ∧ w.cell? ⟨g, 2, none⟩ = some c :=
  ⟨h.cell 0, h.cell 1, h.cell 2⟩
set_option maxRecDepth 100000 in
set_option maxHeartbeats 4000000 in
theorem compareEntries_any (x y : Q4) (w : World) : Calls Try.prog 84 #[.agg #[.string x.s, .int .i64 x.a, .int .i64 x.b, .int .i64 x.c], .agg #[.string y.s, .int .i64 y.a, .int .i64 y.b, .int .i64 y.c]] w fun e w' => e = .returned (.int .i64 (cmpE x y)) ∧ ∃ q os, w' = grow (w.drewN q) os := by
  obtain ⟨xs, xa, xb, xc⟩ := x
  obtain ⟨ys, ya, yb, yc⟩ := y
  dsimp only
  obtain ⟨u1, h1⟩ : ∃ u, cmpT xs ys = u := ⟨_, rfl⟩
  obtain ⟨u2, h2⟩ : ∃ u, cmpN xa ya = u := ⟨_, rfl⟩
  obtain ⟨u3, h3⟩ : ∃ u, cmpN xb yb = u := ⟨_, rfl⟩
  have HE : Hid (cmpE ⟨xs, xa, xb, xc⟩ ⟨ys, ya, yb, yc⟩ = or3 u1 u2 u3) := Lib.hid (by simp only [cmpE, h1, h2, h3])
  have C1 : Hid (∀ W, Calls Try.prog 103 #[.string xs, .string ys] W fun e w' => W = w' ∧ e = .returned (.int .i64 u1)) := Lib.hid fun W => by rw [← h1]; exact cmpT_any xs ys W
  have C2 : Hid (∀ W, Calls Try.prog 94 #[.int .i64 xa, .int .i64 ya] W fun e w' => W = w' ∧ e = .returned (.int .i64 u2)) := Lib.hid fun W => by rw [← h2]; exact cmpN_any xa ya W
  have C3 : Hid (∀ W, Calls Try.prog 94 #[.int .i64 xb, .int .i64 yb] W fun e w' => W = w' ∧ e = .returned (.int .i64 u3)) := Lib.hid fun W => by rw [← h3]; exact cmpN_any xb yb W
  clear h1 h2 h3
  obtain ⟨W, hW⟩ : ∃ W, W = (w.alloc (.cells #[.string xs, .int .i64 xa, .int .i64 xb, .int .i64 xc] 103)).alloc (.cells #[.string ys, .int .i64 ya, .int .i64 yb, .int .i64 yc] 103) := ⟨_, rfl⟩
  have k0 : Bk W w.heap.size 103 #[.string xs, .int .i64 xa, .int .i64 xb, .int .i64 xc] := by rw [hW]; exact (Bk.at_ rfl).alloc _
  have k1 : Bk W (w.heap.size + 1) 103 #[.string ys, .int .i64 ya, .int .i64 yb, .int .i64 yc] := by rw [hW]; exact Bk.at_ (by simp)
  have hs : W.heap.size = w.heap.size + 1 + 1 := by rw [hW]; simp
  have HW : Hid (∀ c, (W.alloc c).drew = grow (w.drewN 1) #[_, _, c]) := Lib.hid fun c => by rw [hW]; exact grow3 w _ _ c
  have a0 := k0.cell 0
  have a1 := k0.cell 1
  have a2 := k0.cell 2
  have b0 := k1.cell 0
  have b1 := k1.cell 1
  have b2 := k1.cell 2
  simp only [List.getElem?_toArray, List.getElem?_cons_zero, List.getElem?_cons_succ] at a0 a1 a2 b0 b1 b2
  obtain ⟨V, hV⟩ : ∃ V, (W.alloc (.cells #[.int .i64 u1, .int .i64 u2, .int .i64 u3] 3)).drew = V := ⟨_, rfl⟩
  have HV : Hid (∃ q os, V = grow (w.drewN q) os) := Lib.hid ⟨1, _, hV.symm.trans (HW.out _)⟩
  have OR : Hid (Calls Try.prog 102 #[.slice (some ⟨w.heap.size + 1 + 1, 0, none⟩) 3 3] ((W.alloc (.cells #[.int .i64 u1, .int .i64 u2, .int .i64 u3] 3)).drew) fun e w' => V = w' ∧ e = .returned (.int .i64 (or3 u1 u2 u3))) := Lib.hid (by rw [hV]; exact or3_any u1 u2 u3 _ _ (by rw [← hV]; exact Bk.drew (Bk.at_ hs)))
  have e0 : Bk V w.heap.size 103 #[.string xs, .int .i64 xa, .int .i64 xb, .int .i64 xc] := by rw [← hV]; exact Bk.drew (k0.alloc _)
  have e1 : Bk V (w.heap.size + 1) 103 #[.string ys, .int .i64 ya, .int .i64 yb, .int .i64 yc] := by rw [← hV]; exact Bk.drew (k1.alloc _)
  have HVC := Lib.hid (And.intro e0.threes e1.threes)
  clear hV HW e0 e1
  clear k0 k1
  go_enter Try.func84, Try.ntmps84
  go_wp2
  rw [← hW]
  clear hW
  go_region_held3 (fun w' => w'.cell? ⟨w.heap.size, 0, none⟩ = some (.string xs) ∧ w'.cell? ⟨w.heap.size + 1, 0, none⟩ = some (.string ys) ∧ w'.cell? ⟨w.heap.size, 1, none⟩ = some (.int .i64 xa) ∧ w'.cell? ⟨w.heap.size + 1, 1, none⟩ = some (.int .i64 ya) ∧ w'.cell? ⟨w.heap.size, 2, none⟩ = some (.int .i64 xb) ∧ w'.cell? ⟨w.heap.size + 1, 2, none⟩ = some (.int .i64 yb)) (go_keep)
    (first
      | (go_at_call 103; with_reducible refine (C1.out _).mono ?_; rintro e w' ⟨rfl, rfl⟩)
      | (go_at_call 94; with_reducible refine (C2.out _).mono ?_; rintro e w' ⟨rfl, rfl⟩)
      | (go_at_call 94; with_reducible refine (C3.out _).mono ?_; rintro e w' ⟨rfl, rfl⟩)
      | (go_at_call 102; with_reducible refine OR.out.mono ?_; rintro e w' ⟨rfl, rfl⟩; obtain ⟨⟨f0, f1, f2⟩, f3, f4, f5⟩ := HVC.out))
  all_goals
    go_wp2
    go_ret
    exact ⟨ret_int HE.out.symm, HV.out⟩

end Go.Proofs.Ytmcefodfppdajaa
