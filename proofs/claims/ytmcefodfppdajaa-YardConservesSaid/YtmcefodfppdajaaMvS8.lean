/- Chapter 8, walks: one movement over the shelves. -/
import Derived.Test.YtmcefodfppdajaaChkM8
import Derived.Test.YtmcefodfppdajaaNorm8
namespace Go.Proofs.Ytmcefodfppdajaa
open Go.RowKit Go.Maps Go.Deep

def mvF (c : Sh → Int) (x : Mo) : Sh → Int := if x.f = -1 then c else upd c (x.p, x.f, x.b) (-x.n)
def mvC (c : Sh → Int) (x : Mo) : Sh → Int := if x.t = -1 then mvF c x else upd (mvF c x) (x.p, x.t, x.a) x.n
noncomputable def mvErr (c : Sh → Int) (x : Mo) : Int := if moErr x = 0 then (if x.f ≠ -1 ∧ c (x.p, x.f, x.b) < x.n then 22 else if manyB (mvC c x) = true then 8 else 0) else moErr x
theorem perm_out {x : Mo} (h : perm x = true) (hf : x.f = -1) : x.t ≠ -1 := by
  obtain ⟨p, f, t, b, a, n⟩ := x
  dsimp only at hf
  subst hf
  unfold perm permB at h
  intro ht
  dsimp only at ht
  subst ht
  simp at h
theorem moR_iff {x : Mo} (h : moR x = true) : (-1 ≤ x.f ∧ x.f ≤ 99) ∧ (-1 ≤ x.t ∧ x.t ≤ 99) ∧ (0 ≤ x.b ∧ x.b ≤ 3) ∧ (0 ≤ x.a ∧ x.a ≤ 3) ∧ 1 ≤ x.n ∧ x.n ≤ 1000000 := by
  unfold moR at h
  simp only [Bool.and_eq_true, inR_iff] at h
  obtain ⟨⟨h1, h2⟩, ⟨h3, h4⟩, h5⟩ := h
  exact ⟨h1, h2, h3, h4, h5⟩
theorem bk_kept {w w' : World} {g k t : Nat} {cs : Array Value} (h : Bk w k t cs) (hg : w.grownBy w' (some g)) (hk : k < w.heap.size) (hne : g < k) : Bk w' k t cs := (hg.block _ hk (by simp; omega)).trans h
set_option maxRecDepth 100000 in
set_option maxHeartbeats 16000000 in
theorem move_any (g n : Nat) (c : Sh → Int) (x : Mo) (w : World) (h : ShM w g n c) (hp : x.p.size ≤ 30) (hn : n < 900000) (hc : ∀ k, 0 ≤ c k ∧ c k ≤ 100000000000) :
    Calls Try.prog 63 #[.map (some g), .agg #[.string x.p, .int .i64 x.f, .int .i64 x.t, .int .i64 x.b, .int .i64 x.a, .int .i64 x.n]] w fun e w' => w.grownBy w' (some g) ∧ e = .returned (.int .i64 (mvErr c x)) ∧ (mvErr c x = 0 → ShM w' g (n + 2) (mvC c x)) := by
  have hlt := h.lt
  have H0 := Lib.hid h
  obtain ⟨E, hE⟩ : ∃ E, moErr x = E := ⟨_, rfl⟩
  have CM : Hid (∀ W, Calls Try.prog 25 #[.agg #[.string x.p, .int .i64 x.f, .int .i64 x.t, .int .i64 x.b, .int .i64 x.a, .int .i64 x.n]] W fun e w' => Below W.heap.size W w' ∧ e = .returned (.int .i64 E)) := Lib.hid fun W => by rw [← hE]; exact checkMovement_any x W hp
  by_cases h0 : E = 0
  rotate_left
  · have HE : Hid (mvErr c x = E) := Lib.hid (by unfold mvErr; rw [hE, if_neg h0])
    have HZ : Hid (mvErr c x ≠ 0) := Lib.hid (by rw [HE.out]; exact h0)
    have hq : (E != 0) = true := by simpa using h0
    clear h0 hE h
    obtain ⟨p, f, t, b, a, n1⟩ := x
    dsimp only at hp CM ⊢
    go_enter Try.func63, Try.ntmps63
    go_wp2_with (go_at_call 25; with_reducible refine (CM.out _).mono ?_; rintro e w1 ⟨hb1, rfl⟩; have HB1 : Hid (Below w.heap.size w w1) := Lib.hid (((Below.refl _ w).alloc (Nat.le_refl _) _).trans (hb1.mono (by simp))); clear hb1)
    go_ret
    exact ⟨(grown_of_below HB1.out).but _, ret_int HE.out.symm, fun h0 => absurd h0 HZ.out⟩
  subst h0
  obtain ⟨-, hr, hpm⟩ := moErr_zero hE
  obtain ⟨hf, ht, hb, ha, hnn⟩ := moR_iff hr
  obtain ⟨p, f, t, b, a, m⟩ := x
  dsimp only at hp CM hf ht hb ha hnn ⊢
  have HK1 : Hid (shOk (p, f, b)) := Lib.hid ⟨by show p.size ≤ 1000; omega, ⟨by show _ ≤ f; omega, by show f ≤ _; omega⟩, ⟨by show _ ≤ b; omega, by show b ≤ _; omega⟩⟩
  have HK2 : Hid (shOk (p, t, a)) := Lib.hid ⟨by show p.size ≤ 1000; omega, ⟨by show _ ≤ t; omega, by show t ≤ _; omega⟩, ⟨by show _ ≤ a; omega, by show a ≤ _; omega⟩⟩
  have HW1 : Hid (i64B (c (p, t, a) + m)) := Lib.hid (by have := hc (p, t, a); constructor <;> omega)
  have HW2 : Hid (i64B (c (p, f, b) + -m)) := Lib.hid (by have := hc (p, f, b); constructor <;> omega)
  have HW3 : Hid (i64B (upd c (p, f, b) (-m) (p, t, a) + m)) := Lib.hid (by have := hc (p, t, a); unfold upd; split <;> constructor <;> omega)
  have hneg : IntKind.i64.wrap (-m) = -m := IntWalk.i64_in _ (by constructor <;> omega)
  by_cases h1 : f = -1
  · have h2 : t ≠ -1 := perm_out hpm h1
    have hq1 : (f != -1) = false := by simpa using h1
    have hq2 : (t != -1) = true := by simpa using h2
    have HC : Hid (mvC c ⟨p, f, t, b, a, m⟩ = upd c (p, t, a) m) := Lib.hid (by unfold mvC mvF; dsimp only; rw [if_neg h2, if_pos h1])
    obtain ⟨M, hM⟩ : ∃ M, manyB (upd c (p, t, a) m) = M := ⟨_, rfl⟩
    have HMY := Lib.hid hM
    have HE : Hid (mvErr c ⟨p, f, t, b, a, m⟩ = if M then 8 else 0) := Lib.hid (by unfold mvErr; rw [if_pos hE, HC.out, hM, if_neg (fun hh => hh.1 h1)])
    clear h hE hr hpm hM h1 h2 hc
    cases M
    · go_enter Try.func63, Try.ntmps63
      go_wp2_with (first
        | (go_at_call 25; with_reducible refine (CM.out _).mono ?_; rintro e w1 ⟨hb1, rfl⟩; have HB1 : Hid (Below w.heap.size w w1) := Lib.hid (((Below.refl _ w).alloc (Nat.le_refl _) _).trans (hb1.mono (by simp))); have HX1 : Hid (Bk w1 w.heap.size 41 #[.string p, .int .i64 f, .int .i64 t, .int .i64 b, .int .i64 a, .int .i64 m]) := Lib.hid ((Bk.at_ rfl).below hb1 (by simp)); obtain ⟨x0, x1, x2, x3, x4, x5⟩ := HX1.out.sixc; have HM1 := Lib.hid (H0.out.below HB1.out); have ow1 := HB1.out.size; have ox1 := HX1.out.lt; clear hb1)
        | (go_at_call 82; go_loud (with_reducible refine (put_any _ _ _ p t a m _ HM1.out HK2.out (by omega) HW1.out).mono ?_; rintro e w3 ⟨hm3, hg3, rfl⟩; have HM3 := Lib.hid hm3; have HG3 : Hid (w.grownBy w3 (some g)) := Lib.hid (((grown_of_below HB1.out).but _).trans hg3); clear hm3 hg3))
        | (go_at_call 54; with_reducible refine (areTooMany_any _ _ _ _ HM3.out).mono ?_; rw [HMY.out]; rintro e w4 ⟨hb4, rfl⟩; have HM4 := Lib.hid (HM3.out.below hb4); have HG4 : Hid (w.grownBy w4 (some g)) := Lib.hid (HG3.out.trans (grown_of_below hb4 |>.but _)); clear hb4))
      go_ret
      exact ⟨HG4.out, ret_int HE.out.symm, fun h0 => by
        have := HM4.out
        rw [HE.out] at h0
        first | exact absurd h0 (by decide) | (rw [HC.out]; exact this.more (by omega))⟩
    · go_enter Try.func63, Try.ntmps63
      go_wp2_with (first
        | (go_at_call 25; with_reducible refine (CM.out _).mono ?_; rintro e w1 ⟨hb1, rfl⟩; have HB1 : Hid (Below w.heap.size w w1) := Lib.hid (((Below.refl _ w).alloc (Nat.le_refl _) _).trans (hb1.mono (by simp))); have HX1 : Hid (Bk w1 w.heap.size 41 #[.string p, .int .i64 f, .int .i64 t, .int .i64 b, .int .i64 a, .int .i64 m]) := Lib.hid ((Bk.at_ rfl).below hb1 (by simp)); obtain ⟨x0, x1, x2, x3, x4, x5⟩ := HX1.out.sixc; have HM1 := Lib.hid (H0.out.below HB1.out); have ow1 := HB1.out.size; have ox1 := HX1.out.lt; clear hb1)
        | (go_at_call 82; go_loud (with_reducible refine (put_any _ _ _ p t a m _ HM1.out HK2.out (by omega) HW1.out).mono ?_; rintro e w3 ⟨hm3, hg3, rfl⟩; have HM3 := Lib.hid hm3; have HG3 : Hid (w.grownBy w3 (some g)) := Lib.hid (((grown_of_below HB1.out).but _).trans hg3); clear hm3 hg3))
        | (go_at_call 54; with_reducible refine (areTooMany_any _ _ _ _ HM3.out).mono ?_; rw [HMY.out]; rintro e w4 ⟨hb4, rfl⟩; have HM4 := Lib.hid (HM3.out.below hb4); have HG4 : Hid (w.grownBy w4 (some g)) := Lib.hid (HG3.out.trans (grown_of_below hb4 |>.but _)); clear hb4))
      go_ret
      exact ⟨HG4.out, ret_int HE.out.symm, fun h0 => by
        have := HM4.out
        rw [HE.out] at h0
        first | exact absurd h0 (by decide) | (rw [HC.out]; exact this.more (by omega))⟩
  · have hq1 : (f != -1) = true := by simpa using h1
    obtain ⟨x, hx⟩ : ∃ x, c (p, f, b) = x := ⟨_, rfl⟩
    have HX : Hid ((nz c (p, f, b)).getD 0 = x) := Lib.hid (by rw [nz_getD, hx])
    have hx0 := hc (p, f, b)
    rw [hx] at hx0
    by_cases hlt2 : x < m
    · have HE : Hid (mvErr c ⟨p, f, t, b, a, m⟩ = 22) := Lib.hid (by unfold mvErr; rw [if_pos hE, if_pos ⟨h1, by rw [hx]; exact hlt2⟩])
      clear h hr hpm hc hE h1 hx
      go_enter Try.func63, Try.ntmps63
      go_wp2_with (first | (go_at_call 25; with_reducible refine (CM.out _).mono ?_; rintro e w1 ⟨hb1, rfl⟩; have HB1 : Hid (Below w.heap.size w w1) := Lib.hid (((Below.refl _ w).alloc (Nat.le_refl _) _).trans (hb1.mono (by simp))); have HX1 : Hid (Bk w1 w.heap.size 41 #[.string p, .int .i64 f, .int .i64 t, .int .i64 b, .int .i64 a, .int .i64 m]) := Lib.hid ((Bk.at_ rfl).below hb1 (by simp)); obtain ⟨x0, x1, x2, x3, x4, x5⟩ := HX1.out.sixc; have HM1 := Lib.hid (H0.out.below HB1.out); have ow1 := HB1.out.size; have ox1 := HX1.out.lt; clear hb1))
      obtain ⟨W0, hW0⟩ : ∃ W0, (w1.alloc (.cells #[.string p, .int .i64 f, .int .i64 b] 114)).drew = W0 := ⟨_, rfl⟩
      have hb0 : Bk W0 w1.heap.size 114 #[.string p, .int .i64 f, .int .i64 b] := by rw [← hW0]; exact Bk.drew (Bk.at_ rfl)
      have hm0 : ShM W0 g n c := by rw [← hW0]; exact (HM1.out.alloc _).drew
      have hs0 : W0.heap.size = w1.heap.size + 1 := by rw [← hW0]; show (w1.alloc _).heap.size = _; simp
      have hg1 : w1.grownBy W0 (some g) := by rw [← hW0]; exact (World.grownBy_alloc _ _ _).trans (grown_of_below ((Below.refl _ _).drew) |>.but _)
      have hx0b : Bk W0 w.heap.size 41 #[.string p, .int .i64 f, .int .i64 t, .int .i64 b, .int .i64 a, .int .i64 m] := (hg1.block _ ox1 (by simp; omega)).trans HX1.out
      have HG0 : Hid (w.grownBy W0 (some g)) := Lib.hid (((grown_of_below HB1.out).but _).trans hg1)
      have e3 := hm0.look (sh_keys w) Try.underlying110 Try.underlying3 (zero_int _) HK1.out
      rw [HX.out] at e3
      simp only [shV] at e3
      obtain ⟨⟨u0, u1, u2⟩, -⟩ := hb0.three
      obtain ⟨y0, y1, y2, y3, y4, y5⟩ := hx0b.sixc
      have HX0 := Lib.hid hx0b
      have HM0 := Lib.hid hm0
      have ow0 : w.heap.size < W0.heap.size := by omega
      clear hb0 hm0 hg1 hx0b
      go_region
      all_goals
        go_wp2
        go_ret
        refine ⟨HG0.out, ret_int HE.out.symm, fun h0 => ?_⟩
        rw [HE.out] at h0
        exact absurd h0 (by decide)
    have HL : Hid (mvErr c ⟨p, f, t, b, a, m⟩ = if manyB (mvC c ⟨p, f, t, b, a, m⟩) = true then 8 else 0) := Lib.hid (by unfold mvErr; rw [if_pos hE, if_neg (fun hh => hlt2 (by rw [← hx]; exact hh.2))])
    by_cases h2 : t = -1
    · have hq2 : (t != -1) = false := by simpa using h2
      have HC : Hid (mvC c ⟨p, f, t, b, a, m⟩ = upd c (p, f, b) (-m)) := Lib.hid (by unfold mvC mvF; dsimp only; rw [if_pos h2, if_neg h1])
      obtain ⟨M, hM⟩ : ∃ M, manyB (upd c (p, f, b) (-m)) = M := ⟨_, rfl⟩
      have HMY := Lib.hid hM
      have HE : Hid (mvErr c ⟨p, f, t, b, a, m⟩ = if M then 8 else 0) := Lib.hid (by rw [HL.out, HC.out, hM])
      clear h hr hpm hc hE h1 hx h2 hM HL
      cases M
      · go_enter Try.func63, Try.ntmps63
        go_wp2_with (first | (go_at_call 25; with_reducible refine (CM.out _).mono ?_; rintro e w1 ⟨hb1, rfl⟩; have HB1 : Hid (Below w.heap.size w w1) := Lib.hid (((Below.refl _ w).alloc (Nat.le_refl _) _).trans (hb1.mono (by simp))); have HX1 : Hid (Bk w1 w.heap.size 41 #[.string p, .int .i64 f, .int .i64 t, .int .i64 b, .int .i64 a, .int .i64 m]) := Lib.hid ((Bk.at_ rfl).below hb1 (by simp)); obtain ⟨x0, x1, x2, x3, x4, x5⟩ := HX1.out.sixc; have HM1 := Lib.hid (H0.out.below HB1.out); have ow1 := HB1.out.size; have ox1 := HX1.out.lt; clear hb1))
        obtain ⟨W0, hW0⟩ : ∃ W0, (w1.alloc (.cells #[.string p, .int .i64 f, .int .i64 b] 114)).drew = W0 := ⟨_, rfl⟩
        have hb0 : Bk W0 w1.heap.size 114 #[.string p, .int .i64 f, .int .i64 b] := by rw [← hW0]; exact Bk.drew (Bk.at_ rfl)
        have hm0 : ShM W0 g n c := by rw [← hW0]; exact (HM1.out.alloc _).drew
        have hs0 : W0.heap.size = w1.heap.size + 1 := by rw [← hW0]; show (w1.alloc _).heap.size = _; simp
        have hg1 : w1.grownBy W0 (some g) := by rw [← hW0]; exact (World.grownBy_alloc _ _ _).trans (grown_of_below ((Below.refl _ _).drew) |>.but _)
        have hx0b : Bk W0 w.heap.size 41 #[.string p, .int .i64 f, .int .i64 t, .int .i64 b, .int .i64 a, .int .i64 m] := (hg1.block _ ox1 (by simp; omega)).trans HX1.out
        have HG0 : Hid (w.grownBy W0 (some g)) := Lib.hid (((grown_of_below HB1.out).but _).trans hg1)
        have e3 := hm0.look (sh_keys w) Try.underlying110 Try.underlying3 (zero_int _) HK1.out
        rw [HX.out] at e3
        simp only [shV] at e3
        obtain ⟨⟨u0, u1, u2⟩, -⟩ := hb0.three
        obtain ⟨y0, y1, y2, y3, y4, y5⟩ := hx0b.sixc
        have HX0 := Lib.hid hx0b
        have HM0 := Lib.hid hm0
        have ow0 : w.heap.size < W0.heap.size := by omega
        clear hb0 hm0 hg1 hx0b
        go_region
        all_goals
          go_wp2_with (first
            | (go_at_call 82; go_loud (with_reducible refine (put_any _ _ _ p f b (-m) _ HM0.out HK1.out (by omega) HW2.out).mono ?_; rintro e w3 ⟨hm3, hg3, rfl⟩; have HM3 := Lib.hid hm3; obtain ⟨z0, z1, z2, z3, z4, z5⟩ := (bk_kept HX0.out hg3 ow0 (by omega)).sixc; have HG3 : Hid (w.grownBy w3 (some g)) := Lib.hid (HG0.out.trans hg3); clear hm3 hg3))
            | (go_at_call 54; with_reducible refine (areTooMany_any _ _ _ _ HM3.out).mono ?_; rw [HMY.out]; rintro e w4 ⟨hb4, rfl⟩; have HM4 := Lib.hid (HM3.out.below hb4); have HG4 : Hid (w.grownBy w4 (some g)) := Lib.hid (HG3.out.trans (grown_of_below hb4 |>.but _)); clear hb4))
          go_ret
          exact ⟨HG4.out, ret_int HE.out.symm, fun h0 => by
            have := HM4.out
            rw [HE.out] at h0
            first | exact absurd h0 (by decide) | (rw [HC.out]; exact this.more (by omega))⟩
      · go_enter Try.func63, Try.ntmps63
        go_wp2_with (first | (go_at_call 25; with_reducible refine (CM.out _).mono ?_; rintro e w1 ⟨hb1, rfl⟩; have HB1 : Hid (Below w.heap.size w w1) := Lib.hid (((Below.refl _ w).alloc (Nat.le_refl _) _).trans (hb1.mono (by simp))); have HX1 : Hid (Bk w1 w.heap.size 41 #[.string p, .int .i64 f, .int .i64 t, .int .i64 b, .int .i64 a, .int .i64 m]) := Lib.hid ((Bk.at_ rfl).below hb1 (by simp)); obtain ⟨x0, x1, x2, x3, x4, x5⟩ := HX1.out.sixc; have HM1 := Lib.hid (H0.out.below HB1.out); have ow1 := HB1.out.size; have ox1 := HX1.out.lt; clear hb1))
        obtain ⟨W0, hW0⟩ : ∃ W0, (w1.alloc (.cells #[.string p, .int .i64 f, .int .i64 b] 114)).drew = W0 := ⟨_, rfl⟩
        have hb0 : Bk W0 w1.heap.size 114 #[.string p, .int .i64 f, .int .i64 b] := by rw [← hW0]; exact Bk.drew (Bk.at_ rfl)
        have hm0 : ShM W0 g n c := by rw [← hW0]; exact (HM1.out.alloc _).drew
        have hs0 : W0.heap.size = w1.heap.size + 1 := by rw [← hW0]; show (w1.alloc _).heap.size = _; simp
        have hg1 : w1.grownBy W0 (some g) := by rw [← hW0]; exact (World.grownBy_alloc _ _ _).trans (grown_of_below ((Below.refl _ _).drew) |>.but _)
        have hx0b : Bk W0 w.heap.size 41 #[.string p, .int .i64 f, .int .i64 t, .int .i64 b, .int .i64 a, .int .i64 m] := (hg1.block _ ox1 (by simp; omega)).trans HX1.out
        have HG0 : Hid (w.grownBy W0 (some g)) := Lib.hid (((grown_of_below HB1.out).but _).trans hg1)
        have e3 := hm0.look (sh_keys w) Try.underlying110 Try.underlying3 (zero_int _) HK1.out
        rw [HX.out] at e3
        simp only [shV] at e3
        obtain ⟨⟨u0, u1, u2⟩, -⟩ := hb0.three
        obtain ⟨y0, y1, y2, y3, y4, y5⟩ := hx0b.sixc
        have HX0 := Lib.hid hx0b
        have HM0 := Lib.hid hm0
        have ow0 : w.heap.size < W0.heap.size := by omega
        clear hb0 hm0 hg1 hx0b
        go_region
        all_goals
          go_wp2_with (first
            | (go_at_call 82; go_loud (with_reducible refine (put_any _ _ _ p f b (-m) _ HM0.out HK1.out (by omega) HW2.out).mono ?_; rintro e w3 ⟨hm3, hg3, rfl⟩; have HM3 := Lib.hid hm3; obtain ⟨z0, z1, z2, z3, z4, z5⟩ := (bk_kept HX0.out hg3 ow0 (by omega)).sixc; have HG3 : Hid (w.grownBy w3 (some g)) := Lib.hid (HG0.out.trans hg3); clear hm3 hg3))
            | (go_at_call 54; with_reducible refine (areTooMany_any _ _ _ _ HM3.out).mono ?_; rw [HMY.out]; rintro e w4 ⟨hb4, rfl⟩; have HM4 := Lib.hid (HM3.out.below hb4); have HG4 : Hid (w.grownBy w4 (some g)) := Lib.hid (HG3.out.trans (grown_of_below hb4 |>.but _)); clear hb4))
          go_ret
          exact ⟨HG4.out, ret_int HE.out.symm, fun h0 => by
            have := HM4.out
            rw [HE.out] at h0
            first | exact absurd h0 (by decide) | (rw [HC.out]; exact this.more (by omega))⟩
    · have hq2 : (t != -1) = true := by simpa using h2
      have HC : Hid (mvC c ⟨p, f, t, b, a, m⟩ = upd (upd c (p, f, b) (-m)) (p, t, a) m) := Lib.hid (by unfold mvC mvF; dsimp only; rw [if_neg h2, if_neg h1])
      obtain ⟨M, hM⟩ : ∃ M, manyB (upd (upd c (p, f, b) (-m)) (p, t, a) m) = M := ⟨_, rfl⟩
      have HMY := Lib.hid hM
      have HE : Hid (mvErr c ⟨p, f, t, b, a, m⟩ = if M then 8 else 0) := Lib.hid (by rw [HL.out, HC.out, hM])
      clear h hr hpm hc hE h1 hx h2 hM HL
      cases M
      · go_enter Try.func63, Try.ntmps63
        go_wp2_with (first | (go_at_call 25; with_reducible refine (CM.out _).mono ?_; rintro e w1 ⟨hb1, rfl⟩; have HB1 : Hid (Below w.heap.size w w1) := Lib.hid (((Below.refl _ w).alloc (Nat.le_refl _) _).trans (hb1.mono (by simp))); have HX1 : Hid (Bk w1 w.heap.size 41 #[.string p, .int .i64 f, .int .i64 t, .int .i64 b, .int .i64 a, .int .i64 m]) := Lib.hid ((Bk.at_ rfl).below hb1 (by simp)); obtain ⟨x0, x1, x2, x3, x4, x5⟩ := HX1.out.sixc; have HM1 := Lib.hid (H0.out.below HB1.out); have ow1 := HB1.out.size; have ox1 := HX1.out.lt; clear hb1))
        obtain ⟨W0, hW0⟩ : ∃ W0, (w1.alloc (.cells #[.string p, .int .i64 f, .int .i64 b] 114)).drew = W0 := ⟨_, rfl⟩
        have hb0 : Bk W0 w1.heap.size 114 #[.string p, .int .i64 f, .int .i64 b] := by rw [← hW0]; exact Bk.drew (Bk.at_ rfl)
        have hm0 : ShM W0 g n c := by rw [← hW0]; exact (HM1.out.alloc _).drew
        have hs0 : W0.heap.size = w1.heap.size + 1 := by rw [← hW0]; show (w1.alloc _).heap.size = _; simp
        have hg1 : w1.grownBy W0 (some g) := by rw [← hW0]; exact (World.grownBy_alloc _ _ _).trans (grown_of_below ((Below.refl _ _).drew) |>.but _)
        have hx0b : Bk W0 w.heap.size 41 #[.string p, .int .i64 f, .int .i64 t, .int .i64 b, .int .i64 a, .int .i64 m] := (hg1.block _ ox1 (by simp; omega)).trans HX1.out
        have HG0 : Hid (w.grownBy W0 (some g)) := Lib.hid (((grown_of_below HB1.out).but _).trans hg1)
        have e3 := hm0.look (sh_keys w) Try.underlying110 Try.underlying3 (zero_int _) HK1.out
        rw [HX.out] at e3
        simp only [shV] at e3
        obtain ⟨⟨u0, u1, u2⟩, -⟩ := hb0.three
        obtain ⟨y0, y1, y2, y3, y4, y5⟩ := hx0b.sixc
        have HX0 := Lib.hid hx0b
        have HM0 := Lib.hid hm0
        have ow0 : w.heap.size < W0.heap.size := by omega
        clear hb0 hm0 hg1 hx0b
        go_region
        all_goals
          go_wp2_with (first
            | (go_at_call 82; with_reducible refine (put_any _ _ _ p f b (-m) _ HM0.out HK1.out (by omega) HW2.out).mono ?_; rintro e w2 ⟨hm2, hg2, rfl⟩; have HM2 := Lib.hid hm2; obtain ⟨z0, z1, z2, z3, z4, z5⟩ := (bk_kept HX0.out hg2 ow0 (by omega)).sixc; have HG2 : Hid (w.grownBy w2 (some g)) := Lib.hid (HG0.out.trans hg2); clear hm2 hg2)
            | (go_at_call 82; with_reducible refine (put_any _ _ _ p t a m _ HM2.out HK2.out (by omega) HW3.out).mono ?_; rintro e w3 ⟨hm3, hg3, rfl⟩; have HM3 := Lib.hid hm3; have HG3 : Hid (w.grownBy w3 (some g)) := Lib.hid (HG2.out.trans hg3); clear hm3 hg3)
            | (go_at_call 54; with_reducible refine (areTooMany_any _ _ _ _ HM3.out).mono ?_; rw [HMY.out]; rintro e w4 ⟨hb4, rfl⟩; have HM4 := Lib.hid (HM3.out.below hb4); have HG4 : Hid (w.grownBy w4 (some g)) := Lib.hid (HG3.out.trans (grown_of_below hb4 |>.but _)); clear hb4))
          go_ret
          exact ⟨HG4.out, ret_int HE.out.symm, fun h0 => by
            have := HM4.out
            rw [HE.out] at h0
            first | exact absurd h0 (by decide) | (rw [HC.out]; exact this.more (by omega))⟩
      · go_enter Try.func63, Try.ntmps63
        go_wp2_with (first | (go_at_call 25; with_reducible refine (CM.out _).mono ?_; rintro e w1 ⟨hb1, rfl⟩; have HB1 : Hid (Below w.heap.size w w1) := Lib.hid (((Below.refl _ w).alloc (Nat.le_refl _) _).trans (hb1.mono (by simp))); have HX1 : Hid (Bk w1 w.heap.size 41 #[.string p, .int .i64 f, .int .i64 t, .int .i64 b, .int .i64 a, .int .i64 m]) := Lib.hid ((Bk.at_ rfl).below hb1 (by simp)); obtain ⟨x0, x1, x2, x3, x4, x5⟩ := HX1.out.sixc; have HM1 := Lib.hid (H0.out.below HB1.out); have ow1 := HB1.out.size; have ox1 := HX1.out.lt; clear hb1))
        obtain ⟨W0, hW0⟩ : ∃ W0, (w1.alloc (.cells #[.string p, .int .i64 f, .int .i64 b] 114)).drew = W0 := ⟨_, rfl⟩
        have hb0 : Bk W0 w1.heap.size 114 #[.string p, .int .i64 f, .int .i64 b] := by rw [← hW0]; exact Bk.drew (Bk.at_ rfl)
        have hm0 : ShM W0 g n c := by rw [← hW0]; exact (HM1.out.alloc _).drew
        have hs0 : W0.heap.size = w1.heap.size + 1 := by rw [← hW0]; show (w1.alloc _).heap.size = _; simp
        have hg1 : w1.grownBy W0 (some g) := by rw [← hW0]; exact (World.grownBy_alloc _ _ _).trans (grown_of_below ((Below.refl _ _).drew) |>.but _)
        have hx0b : Bk W0 w.heap.size 41 #[.string p, .int .i64 f, .int .i64 t, .int .i64 b, .int .i64 a, .int .i64 m] := (hg1.block _ ox1 (by simp; omega)).trans HX1.out
        have HG0 : Hid (w.grownBy W0 (some g)) := Lib.hid (((grown_of_below HB1.out).but _).trans hg1)
        have e3 := hm0.look (sh_keys w) Try.underlying110 Try.underlying3 (zero_int _) HK1.out
        rw [HX.out] at e3
        simp only [shV] at e3
        obtain ⟨⟨u0, u1, u2⟩, -⟩ := hb0.three
        obtain ⟨y0, y1, y2, y3, y4, y5⟩ := hx0b.sixc
        have HX0 := Lib.hid hx0b
        have HM0 := Lib.hid hm0
        have ow0 : w.heap.size < W0.heap.size := by omega
        clear hb0 hm0 hg1 hx0b
        go_region
        all_goals
          go_wp2_with (first
            | (go_at_call 82; with_reducible refine (put_any _ _ _ p f b (-m) _ HM0.out HK1.out (by omega) HW2.out).mono ?_; rintro e w2 ⟨hm2, hg2, rfl⟩; have HM2 := Lib.hid hm2; obtain ⟨z0, z1, z2, z3, z4, z5⟩ := (bk_kept HX0.out hg2 ow0 (by omega)).sixc; have HG2 : Hid (w.grownBy w2 (some g)) := Lib.hid (HG0.out.trans hg2); clear hm2 hg2)
            | (go_at_call 82; with_reducible refine (put_any _ _ _ p t a m _ HM2.out HK2.out (by omega) HW3.out).mono ?_; rintro e w3 ⟨hm3, hg3, rfl⟩; have HM3 := Lib.hid hm3; have HG3 : Hid (w.grownBy w3 (some g)) := Lib.hid (HG2.out.trans hg3); clear hm3 hg3)
            | (go_at_call 54; with_reducible refine (areTooMany_any _ _ _ _ HM3.out).mono ?_; rw [HMY.out]; rintro e w4 ⟨hb4, rfl⟩; have HM4 := Lib.hid (HM3.out.below hb4); have HG4 : Hid (w.grownBy w4 (some g)) := Lib.hid (HG3.out.trans (grown_of_below hb4 |>.but _)); clear hb4))
          go_ret
          exact ⟨HG4.out, ret_int HE.out.symm, fun h0 => by
            have := HM4.out
            rw [HE.out] at h0
            first | exact absurd h0 (by decide) | (rw [HC.out]; exact this.more (by omega))⟩

end Go.Proofs.Ytmcefodfppdajaa
