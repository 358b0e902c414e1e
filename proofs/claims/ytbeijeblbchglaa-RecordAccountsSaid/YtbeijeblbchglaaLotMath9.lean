/- Chapter 9: the lots of a part, first in first out and by marks: the same. No program is named here. -/
import Derived.Test.YtbeijeblbchglaaMove9
namespace Go.Proofs.Ytbeijeblbchglaa

/-- What goes of a queue: what went, what stays. -/
def goTake (dy kd : Int) : Int → List Lt → List Lt × List Lt
  | _, [] => ([], [])
  | left, x :: hs => if left ≤ 0 then ([], x :: hs) else if left < x.n then ([⟨x.p, left, x.i, dy, kd⟩], ⟨x.p, x.n - left, x.i, x.d, x.o⟩ :: hs) else (⟨x.p, x.n, x.i, dy, kd⟩ :: (goTake dy kd (left - x.n) hs).1, (goTake dy kd (left - x.n) hs).2)
def stepM (p : ByteArray) (s : List Lt × List Lt) (m : Mv) : List Lt × List Lt :=
  if eqS m.p p = true then (if m.k = 0 then (s.1, s.2 ++ [⟨p, m.n, m.d, -1, -1⟩]) else (s.1 ++ (goTake m.d m.k m.n s.2).1, (goTake m.d m.k m.n s.2).2)) else s
def runM (p : ByteArray) (l : List Mv) : List Lt × List Lt := l.foldl (stepM p) ([], [])
def lotsP (p : ByteArray) (l : List Mv) : List Lt := (runM p l).1 ++ (runM p l).2
def scan (p : ByteArray) (f e i : Int) : Int → List Mv → List Lt
  | w, [] => if 0 < e - max f w then [⟨p, e - max f w, i, -1, -1⟩] else []
  | w, m :: r => if eqS m.p p = true ∧ m.k ≠ 0 then (if 0 < min e (w + m.n) - max f w then [⟨p, min e (w + m.n) - max f w, i, m.d, m.k⟩] else []) ++ scan p f e i (w + m.n) r else scan p f e i w r
def refL (p : ByteArray) (all : List Mv) : Int → List Mv → List Lt
  | _, [] => []
  | c, m :: r => if eqS m.p p = true ∧ m.k = 0 then scan p c (c + m.n) m.d 0 all ++ refL p all (c + m.n) r else refL p all c r
def lotsR (p : ByteArray) (l : List Mv) : List Lt := refL p l 0 l

def goesL (p : ByteArray) (l : List Mv) : List Mv := l.filter fun m => eqS m.p p && decide (m.k ≠ 0)
def delsL (p : ByteArray) (l : List Mv) : List Lt := (l.filter fun m => eqS m.p p && decide (m.k = 0)).map fun m => ⟨p, m.n, m.d, -1, -1⟩
def scanG (p : ByteArray) (f e i : Int) : Int → List Mv → List Lt
  | w, [] => if 0 < e - max f w then [⟨p, e - max f w, i, -1, -1⟩] else []
  | w, m :: r => (if 0 < min e (w + m.n) - max f w then [⟨p, min e (w + m.n) - max f w, i, m.d, m.k⟩] else []) ++ scanG p f e i (w + m.n) r
def refG (p : ByteArray) (w : Int) (gs : List Mv) : Int → List Lt → List Lt
  | _, [] => []
  | c, x :: xs => scanG p c (c + x.n) x.i w gs ++ refG p w gs (c + x.n) xs
def pays : List Mv → List Lt → List Lt × List Lt
  | [], hs => ([], hs)
  | m :: r, hs => ((goTake m.d m.k m.n hs).1 ++ (pays r (goTake m.d m.k m.n hs).2).1, (pays r (goTake m.d m.k m.n hs).2).2)
def nsum (l : List Lt) : Int := (l.map (·.n)).sum
def gsum (l : List Mv) : Int := (l.map (·.n)).sum

theorem goes_yes {p : ByteArray} {m : Mv} {r : List Mv} (h : eqS m.p p = true ∧ m.k ≠ 0) : goesL p (m :: r) = m :: goesL p r := by
  rw [goesL, List.filter_cons, if_pos (by simp [h])]; rfl
theorem goes_no {p : ByteArray} {m : Mv} {r : List Mv} (h : ¬ (eqS m.p p = true ∧ m.k ≠ 0)) : goesL p (m :: r) = goesL p r := by
  rw [goesL, List.filter_cons, if_neg (by simpa using h)]; rfl
theorem dels_yes {p : ByteArray} {m : Mv} {r : List Mv} (h : eqS m.p p = true ∧ m.k = 0) : delsL p (m :: r) = ⟨p, m.n, m.d, -1, -1⟩ :: delsL p r := by
  rw [delsL, List.filter_cons, if_pos (by simp [h])]; rfl
theorem dels_no {p : ByteArray} {m : Mv} {r : List Mv} (h : ¬ (eqS m.p p = true ∧ m.k = 0)) : delsL p (m :: r) = delsL p r := by
  rw [delsL, List.filter_cons, if_neg (by simpa using h)]; rfl
theorem scan_goes (p : ByteArray) (f e i : Int) : ∀ (l : List Mv) (w : Int), scan p f e i w l = scanG p f e i w (goesL p l)
  | [], w => rfl
  | m :: r, w => by
    by_cases h : eqS m.p p = true ∧ m.k ≠ 0
    · rw [scan, if_pos h, goes_yes h, scanG, scan_goes p f e i r]
    · rw [scan, if_neg h, goes_no h, scan_goes p f e i r]
theorem refL_dels (p : ByteArray) (all : List Mv) : ∀ (l : List Mv) (c : Int), refL p all c l = refG p 0 (goesL p all) c (delsL p l)
  | [], c => rfl
  | m :: r, c => by
    by_cases h : eqS m.p p = true ∧ m.k = 0
    · rw [refL, if_pos h, dels_yes h, refG, scan_goes, refL_dels p all r]
    · rw [refL, if_neg h, dels_no h, refL_dels p all r]
/-- A lot that lies: of the part p, with pieces, on hire. -/
def lies (p : ByteArray) (x : Lt) : Prop := 0 < x.n ∧ x.p = p ∧ x.d = -1 ∧ x.o = -1
theorem refG_none (p : ByteArray) : ∀ (hs : List Lt) (w c : Int), w ≤ c → (∀ x ∈ hs, lies p x) → refG p w [] c hs = hs
  | [], w, c, _, _ => rfl
  | x :: xs, w, c, h, hl => by
    obtain ⟨h1, h2, h3, h4⟩ := hl x (List.mem_cons_self ..)
    rw [refG, scanG, Int.max_eq_left h, if_pos (by omega), refG_none p xs w _ (by omega) fun y hy => hl y (List.mem_cons_of_mem _ hy)]
    obtain ⟨xp, xn, xi, xd, xo⟩ := x
    dsimp only at h2 h3 h4
    subst h2; subst h3; subst h4
    dsimp only
    rw [show c + xn - c = xn by omega]
    rfl
theorem scan_first (p : ByteArray) (f f' e i : Int) : ∀ (gs : List Mv) (w : Int), f ≤ w → f' ≤ w → (∀ g ∈ gs, 0 < g.n) → scanG p f e i w gs = scanG p f' e i w gs
  | [], w, h, h', _ => by rw [scanG, scanG, Int.max_eq_right h, Int.max_eq_right h']
  | g :: r, w, h, h', hg => by
    have := hg g (List.mem_cons_self ..)
    rw [scanG, scanG, Int.max_eq_right h, Int.max_eq_right h', scan_first p f f' e i r (w + g.n) (by omega) (by omega) fun y hy => hg y (List.mem_cons_of_mem _ hy)]
theorem scan_done (p : ByteArray) (f e i : Int) : ∀ (gs : List Mv) (w : Int), e ≤ w → (∀ g ∈ gs, 0 < g.n) → scanG p f e i w gs = []
  | [], w, h, _ => by rw [scanG, if_neg (by omega)]
  | g :: r, w, h, hg => by
    have := hg g (List.mem_cons_self ..)
    rw [scanG, if_neg (by omega), scan_done p f e i r (w + g.n) (by omega) fun y hy => hg y (List.mem_cons_of_mem _ hy)]
    rfl
theorem refG_skip (p : ByteArray) (g : Mv) (r : List Mv) (w : Int) : ∀ (hs : List Lt) (c : Int), w + g.n ≤ c → (∀ x ∈ hs, lies p x) → refG p w (g :: r) c hs = refG p (w + g.n) r c hs
  | [], c, _, _ => rfl
  | x :: xs, c, h, hl => by
    obtain ⟨h1, -⟩ := hl x (List.mem_cons_self ..)
    rw [refG, refG, scanG, if_neg (by omega), refG_skip p g r w xs (c + x.n) (by omega) fun y hy => hl y (List.mem_cons_of_mem _ hy)]
    rfl
theorem refG_cut (p : ByteArray) (g : Mv) (r : List Mv) (w k : Int) (h0 : 0 ≤ k) : ∀ (hs : List Lt) (c : Int), w + k ≤ c → (∀ x ∈ hs, lies p x) → refG p w (g :: r) c hs = refG p (w + k) (⟨g.d, g.k, g.p, g.n - k⟩ :: r) c hs
  | [], c, _, _ => rfl
  | x :: xs, c, h, hl => by
    obtain ⟨h1, -⟩ := hl x (List.mem_cons_self ..)
    rw [refG, refG, scanG, scanG, refG_cut p g r w k h0 xs (c + x.n) (by omega) fun y hy => hl y (List.mem_cons_of_mem _ hy), Int.max_eq_left (show w ≤ c by omega), Int.max_eq_left h]
    dsimp only
    rw [show w + k + (g.n - k) = w + g.n by omega]
theorem take_zero (dy kd : Int) (hs : List Lt) : goTake dy kd 0 hs = ([], hs) := by
  cases hs with
  | nil => rfl
  | cons x hs => rw [goTake, if_pos (Int.le_refl _)]
theorem pays_nil : ∀ gs : List Mv, pays gs [] = ([], [])
  | [] => rfl
  | g :: r => by rw [pays]; simp only [goTake, pays_nil r, List.append_nil]
/-- By marks is first in, first out. -/
theorem refG_pays (p : ByteArray) : ∀ (k : Nat) (hs : List Lt) (gs : List Mv) (c : Int), hs.length + gs.length ≤ k → (∀ x ∈ hs, lies p x) → (∀ g ∈ gs, 0 < g.n) → refG p c gs c hs = (pays gs hs).1 ++ (pays gs hs).2
  | 0, [], [], c, _, _, _ => rfl
  | 0, _ :: _, _, _, h, _, _ => by simp at h
  | 0, [], _ :: _, _, h, _, _ => by simp at h
  | k + 1, hs, [], c, _, hl, _ => by rw [refG_none p hs c c (Int.le_refl _) hl]; rfl
  | k + 1, [], g :: r, c, _, _, _ => by rw [pays_nil]; rfl
  | k + 1, x :: xs, g :: r, c, h, hl, hg => by
    simp only [List.length_cons] at h
    have hx := hl x (List.mem_cons_self ..)
    obtain ⟨h1, h2, h3, h4⟩ := hx
    have hl' : ∀ y ∈ xs, lies p y := fun y hy => hl y (List.mem_cons_of_mem _ hy)
    have g1 := hg g (List.mem_cons_self ..)
    have hg' : ∀ y ∈ r, 0 < y.n := fun y hy => hg y (List.mem_cons_of_mem _ hy)
    rw [refG, scanG, Int.max_eq_left (Int.le_refl c), pays, goTake, if_neg (show ¬ g.n ≤ 0 by omega)]
    by_cases ha : g.n < x.n
    · rw [if_pos ha, if_pos (show 0 < min (c + x.n) (c + g.n) - c by omega), Int.min_eq_right (show c + g.n ≤ c + x.n by omega), show c + g.n - c = g.n by omega, scan_first p c (c + g.n) _ _ r (c + g.n) (by omega) (by omega) hg', refG_skip p g r c xs (c + x.n) (by omega) hl']
      have ih := refG_pays p k (⟨x.p, x.n - g.n, x.i, x.d, x.o⟩ :: xs) r (c + g.n) (by simp only [List.length_cons]; omega) (fun y hy => by
        rcases List.mem_cons.1 hy with rfl | hy
        · exact ⟨by dsimp only; omega, h2, h3, h4⟩
        · exact hl' y hy) hg'
      rw [refG] at ih
      dsimp only at ih
      rw [show c + g.n + (x.n - g.n) = c + x.n by omega] at ih
      dsimp only
      rw [List.append_assoc, ih, h2]
      simp
    · rw [if_neg ha, if_pos (show 0 < min (c + x.n) (c + g.n) - c by omega), Int.min_eq_left (show c + x.n ≤ c + g.n by omega), show c + x.n - c = x.n by omega, scan_done p c (c + x.n) _ r (c + g.n) (by omega) hg', List.append_nil]
      by_cases he : g.n = x.n
      · rw [refG_skip p g r c xs (c + x.n) (by omega) hl', he, show x.n - x.n = (0 : Int) by omega, take_zero]
        have ih := refG_pays p k xs r (c + x.n) (by omega) hl' hg'
        dsimp only
        rw [ih, h2]
        simp
      · rw [refG_cut p g r c x.n (by omega) xs (c + x.n) (Int.le_refl _) hl']
        have ih := refG_pays p k xs (⟨g.d, g.k, g.p, g.n - x.n⟩ :: r) (c + x.n) (by simp only [List.length_cons]; omega) hl' (fun y hy => by
          rcases List.mem_cons.1 hy with rfl | hy
          · dsimp only; omega
          · exact hg' y hy)
        rw [ih, pays]
        dsimp only
        rw [h2]
        simp

theorem nsum_cons (x : Lt) (l : List Lt) : nsum (x :: l) = x.n + nsum l := by simp [nsum]
theorem gsum_cons (x : Mv) (l : List Mv) : gsum (x :: l) = x.n + gsum l := by simp [gsum]
theorem take_app (dy kd : Int) (d : Lt) : ∀ (hs : List Lt) (left : Int), left ≤ nsum hs → goTake dy kd left (hs ++ [d]) = ((goTake dy kd left hs).1, (goTake dy kd left hs).2 ++ [d])
  | [], left, h => by
    have : left ≤ 0 := by simpa [nsum] using h
    rw [List.nil_append, show goTake dy kd left [d] = ([], [d]) by rw [goTake, if_pos this]]
    rfl
  | x :: xs, left, h => by
    rw [nsum_cons] at h
    rw [List.cons_append, goTake, goTake]
    by_cases h0 : left ≤ 0
    · rw [if_pos h0, if_pos h0]; rfl
    · rw [if_neg h0, if_neg h0]
      by_cases h1 : left < x.n
      · rw [if_pos h1, if_pos h1]; rfl
      · rw [if_neg h1, if_neg h1, take_app dy kd d xs (left - x.n) (by omega)]
theorem take_sum (dy kd : Int) : ∀ (hs : List Lt) (left : Int), 0 ≤ left → left ≤ nsum hs → nsum (goTake dy kd left hs).2 = nsum hs - left
  | [], left, h0, h => by
    have : left ≤ 0 := by simpa [nsum] using h
    obtain rfl : left = 0 := by omega
    simp [goTake, nsum]
  | x :: xs, left, hz, h => by
    rw [nsum_cons] at h
    rw [goTake]
    by_cases h0 : left ≤ 0
    · rw [if_pos h0]; simp only [nsum_cons]; omega
    · rw [if_neg h0]
      by_cases h1 : left < x.n
      · rw [if_pos h1]; simp only [nsum_cons]; omega
      · rw [if_neg h1]
        dsimp only
        rw [take_sum dy kd xs (left - x.n) (by omega) (by omega), nsum_cons]
        omega
theorem take_lies (p : ByteArray) (dy kd : Int) : ∀ (hs : List Lt) (left : Int), (∀ x ∈ hs, lies p x) → ∀ x ∈ (goTake dy kd left hs).2, lies p x
  | [], left, _, x, hx => by simp [goTake] at hx
  | y :: ys, left, h, x, hx => by
    rw [goTake] at hx
    have hy := h y (List.mem_cons_self ..)
    by_cases h0 : left ≤ 0
    · rw [if_pos h0] at hx; exact h x hx
    · rw [if_neg h0] at hx
      by_cases h1 : left < y.n
      · rw [if_pos h1] at hx
        rcases List.mem_cons.1 hx with rfl | hx
        · exact ⟨by dsimp only; omega, hy.2.1, hy.2.2.1, hy.2.2.2⟩
        · exact h x (List.mem_cons_of_mem _ hx)
      · rw [if_neg h1] at hx
        exact take_lies p dy kd ys _ (fun z hz => h z (List.mem_cons_of_mem _ hz)) x hx
theorem pays_end (g : Mv) : ∀ (gs : List Mv) (hs : List Lt), pays (gs ++ [g]) hs = ((pays gs hs).1 ++ (goTake g.d g.k g.n (pays gs hs).2).1, (goTake g.d g.k g.n (pays gs hs).2).2)
  | [], hs => by simp [pays]
  | m :: r, hs => by
    rw [List.cons_append, pays, pays, pays_end g r]
    dsimp only
    rw [List.append_assoc]
theorem pays_app (d : Lt) : ∀ (gs : List Mv) (hs : List Lt), (∀ g ∈ gs, 0 < g.n) → gsum gs ≤ nsum hs → pays gs (hs ++ [d]) = ((pays gs hs).1, (pays gs hs).2 ++ [d])
  | [], hs, _, _ => rfl
  | m :: r, hs, hg, h => by
    have g1 := hg m (List.mem_cons_self ..)
    have hg' : ∀ y ∈ r, 0 < y.n := fun y hy => hg y (List.mem_cons_of_mem _ hy)
    have hr : 0 ≤ gsum r := by
      clear h hg
      induction r with
      | nil => simp [gsum]
      | cons y ys ih =>
        rw [gsum_cons]
        have := hg' y (List.mem_cons_self ..)
        have := ih fun z hz => hg' z (List.mem_cons_of_mem _ hz)
        omega
    rw [gsum_cons] at h
    rw [pays, pays, take_app m.d m.k d hs m.n (by omega)]
    dsimp only
    rw [pays_app d r _ hg' (by rw [take_sum m.d m.k hs m.n (by omega) (by omega)]; omega)]

end Go.Proofs.Ytbeijeblbchglaa
