/- ExactTexts: Format and Parse of the program return what the reference returns, for all fractions of few limbs and all texts of few bytes, also such as are not in normal form or are not the text of any fraction, and what is written is read again: the statement holds for every input, with no condition. -/
import Derived.Test.YtfnibkodccfocaaGreatFrac1
import Derived.Test.YtfnibkodccfocaaGreatStp1
import Derived.Test.YtfnibkodccfocaaGreatAwake1
import Derived.Test.YtfnibkodccfocaaGreatTexA
import Derived.Test.YtfnibkodccfocaaGreatOwn
import Derived.Test.YtfnibkodccfocaaGreatLineF
import Derived.Laws.IdiomStrings
import Derived.Laws.AppendOwn
import Derived.Deep.LoopGhost
import Derived.Test.YtfnibkodccfocaaGreatByLimb
import Derived.Test.YtfnibkodccfocaaGreatWord
import Derived.Test.YtfnibkodccfocaaGreatRefB
import Derived.Maps.AppendAt
import Derived.Test.YtfnibkodccfocaaGreatOpenG1
import Derived.ChangeMaps5
/- The contracts of Floor, Normal and Whole. -/
namespace Go.Proofs.YtfnibkodccfocaaGreat
open Go.RowKit

theorem Bk.quad {w : World} {g t : Nat} {a b c d : Value} (h : Bk w g t #[a, b, c, d]) : (w.cell? ⟨g, 0, none⟩ = some a ∧ w.cell? ⟨g, 1, none⟩ = some b ∧ w.cell? ⟨g, 2, none⟩ = some c ∧ w.cell? ⟨g, 3, none⟩ = some d) ∧ w.frozen? ⟨g, 0, none⟩ = false ∧ w.frozen? ⟨g, 1, none⟩ = false ∧ w.frozen? ⟨g, 2, none⟩ = false ∧ w.frozen? ⟨g, 3, none⟩ = false :=
  ⟨⟨by simpa using h.cell 0, by simpa using h.cell 1, by simpa using h.cell 2, by simpa using h.cell 3⟩, h.frozen 0, h.frozen 1, h.frozen 2, h.frozen 3⟩

theorem terms_of (a b : Int) : Terms a b (tnum a b) (tden b) := by
  unfold tnum tden Terms
  rcases Int.lt_trichotomy b 0 with h | h | h
  · right; left; rw [if_pos h, if_neg (by omega), if_pos h]; exact ⟨h, rfl, rfl⟩
  · left; subst h; simp
  · right; right; rw [if_neg (by omega), if_neg (by omega), if_neg (by omega)]; exact ⟨h, rfl, rfl⟩
theorem rat_mul0 {p q : Int} {x : Rat} (h : Rat.divInt p q = x) (hq : 0 < q) : x * (q : Rat) = (p : Rat) := by
  rw [← h, Rat.divInt_eq_div]
  exact Rat.div_mul_cancel (by exact_mod_cast (show q ≠ 0 by omega))
theorem floor_fact {p q : Int} {x : Rat} (h : Rat.divInt p q = x) (hq : 0 < q) : ((p / q : Int) : Rat) ≤ x ∧ x < ((p / q : Int) : Rat) + 1 := by
  have e := rat_mul0 h hq
  have q0 : (0 : Rat) < (q : Rat) := by exact_mod_cast hq
  have i1 : p / q * q ≤ p := Int.ediv_mul_le p (by omega)
  have i2 : p < (p / q + 1) * q := Int.lt_ediv_add_one_mul_self p hq
  constructor
  · refine Rat.not_lt.1 fun hlt => ?_
    have hm := (Rat.mul_lt_mul_right q0).2 hlt
    rw [e, ← Rat.intCast_mul] at hm
    have : p < p / q * q := by exact_mod_cast hm
    omega
  · refine (Rat.mul_lt_mul_right q0).1 ?_
    have e2 : ((p / q : Int) : Rat) + 1 = ((p / q + 1 : Int) : Rat) := by rw [Rat.intCast_add]; rfl
    rw [e, e2, ← Rat.intCast_mul]
    exact_mod_cast i2
theorem floorH {w w1 : World} {s1 : Bool} {A1 : Option Addr} {n1 c1 : Nat} {s2 : Bool} {A2 : Option Addr} {n2 c2 : Nat} {x : Rat} {K : Nat} {f : Bool} (h : RatH w1 s1 A1 n1 c1 s2 A2 n2 c2 x K f) (b1 : Below w1.heap.size w1 w) (hK : K ≤ 1000) :
    Calls Tryz.prog 42 #[.agg #[.bool s1, .slice A1 n1 c1, .bool s2, .slice A2 n2 c2]] w fun e w' => ∃ F : Int, (F : Rat) ≤ x ∧ x < (F : Rat) + 1 ∧ MakesInt F (K + 1 + 1 + 1) w e w' := by
  obtain ⟨l1, l2, g1, g2, hx, -⟩ := h.lim
  have L1 := g1 w b1
  have L2 := g2 w b1
  have k1 := h.len1
  have k2 := h.len2
  refine (floor_any s1 s2 A1 A2 n1 c1 n2 c2 l1 l2 w L1 L2 (by omega) (by omega)).mono ?_
  intro e w' hr
  have ht := terms_of (sg s1 (val l1)) (sg s2 (val l2))
  obtain ⟨f1, f2⟩ := ht.frac
  obtain ⟨i1, i2⟩ := floor_fact (f1.trans hx.symm) f2
  have e1 := sg_below (s := s1) L1.bd L1.len (Nat.le_succ_of_le k1)
  have e2 := sg_below (s := s2) L2.bd L2.len (Nat.le_succ_of_le k2)
  obtain ⟨j1, j2⟩ := ht.bounds e1 e2 (Nat.succ_pos K)
  have hd := div_abs (tnum (sg s1 (val l1)) (sg s2 (val l2))) (tden (sg s2 (val l2)))
  have hw1 : W 1 = 4294967296 := by decide
  have hs := W_sum (K1 := K + 1) (K2 := 1) (b := 1) j1 (by omega)
  exact ⟨_, i1, i2, makes_of hr (by have := hs; simp only [Nat.add_assoc] at this ⊢; omega)⟩
theorem normalH {w w1 : World} {s1 : Bool} {A1 : Option Addr} {n1 c1 : Nat} {s2 : Bool} {A2 : Option Addr} {n2 c2 : Nat} {x : Rat} {K : Nat} {f : Bool} (h : RatH w1 s1 A1 n1 c1 s2 A2 n2 c2 x K f) (b1 : Below w1.heap.size w1 w) (hK : K ≤ 1000) :
    Calls Tryz.prog 30 #[.agg #[.bool s1, .slice A1 n1 c1, .bool s2, .slice A2 n2 c2]] w (MakesRat x (K + 1) w) := by
  obtain ⟨l1, l2, g1, g2, hx, -⟩ := h.lim
  have L1 := g1 w b1
  have L2 := g2 w b1
  have k1 := h.len1
  have k2 := h.len2
  refine (normal_any s1 s2 A1 A2 n1 c1 n2 c2 l1 l2 w L1 L2 (by omega) (by omega)).mono ?_
  intro e w' hr
  rw [← hx] at hr
  have ht := terms_of (sg s1 (val l1)) (sg s2 (val l2))
  obtain ⟨f1, f2⟩ := ht.frac
  have e1 := sg_below (s := s1) L1.bd L1.len (Nat.le_succ_of_le k1)
  have e2 := sg_below (s := s2) L2.bd L2.len (Nat.le_succ_of_le k2)
  obtain ⟨j1, j2⟩ := ht.bounds e1 e2 (Nat.succ_pos K)
  have hb := divInt_bd (p := tnum (sg s1 (val l1)) (sg s2 (val l2))) f2
  rw [f1, ← hx] at hb
  exact makesR_of hr (Nat.lt_of_le_of_lt hb.1 j1) (Nat.lt_of_le_of_lt hb.2 j2)
theorem whole0 (w : World) : Calls Tryz.prog 28 #[.int .i64 0] w (MakesRat 0 1 w) := by
  have hw1 : W 1 = 4294967296 := by decide
  refine (whole_any 0 w (by omega) (by omega)).mono ?_
  intro e w' hr
  exact makesR_of hr (by rw [hw1]; decide) (by rw [hw1]; decide)
theorem whole1 (w : World) : Calls Tryz.prog 28 #[.int .i64 1] w (MakesRat 1 1 w) := by
  have hw1 : W 1 = 4294967296 := by decide
  refine (whole_any 1 w (by omega) (by omega)).mono ?_
  intro e w' hr
  exact makesR_of hr (by rw [hw1]; decide) (by rw [hw1]; decide)
/-- Both parts of a fraction in normal form. -/
theorem RatH.parts {w0 : World} {s1 : Bool} {A1 : Option Addr} {n1 c1 : Nat} {s2 : Bool} {A2 : Option Addr} {n2 c2 : Nat} {x : Rat} {K : Nat} (h : RatH w0 s1 A1 n1 c1 s2 A2 n2 c2 x K true) :
    IntH w0 s1 A1 n1 c1 x.num K true ∧ IntH w0 s2 A2 n2 c2 (x.den : Int) K true := by
  obtain ⟨l1, l2, g1, g2, -, hn⟩ := h.lim
  obtain ⟨N1, p1, N2, p2, z1, z2⟩ := hn rfl
  exact ⟨⟨⟨l1, g1, z1, fun _ => ⟨N1, p1⟩⟩, h.len1⟩, ⟨⟨l2, g2, z2, fun _ => ⟨N2, p2⟩⟩, h.len2⟩⟩
end Go.Proofs.YtfnibkodccfocaaGreat

/- Same and brief. -/
namespace Go.Proofs.YtfnibkodccfocaaGreat
open Go.RowKit

set_option maxRecDepth 100000 in
set_option maxHeartbeats 4000000 in
theorem sameRH {s1 s2 s3 s4 : Bool} {A1 A2 A3 A4 : Option Addr} {n1 c1 n2 c2 n3 c3 n4 c4 K1 K2 : Nat} {x y : Rat} {w1 w2 w : World} (h1 : RatH w1 s1 A1 n1 c1 s2 A2 n2 c2 x K1 true) (h2 : RatH w2 s3 A3 n3 c3 s4 A4 n4 c4 y K2 true) (b1 : Below w1.heap.size w1 w) (b2 : Below w2.heap.size w2 w) (hxy : x = y) :
    Calls Tryz.prog 27 #[.agg #[.bool s1, .slice A1 n1 c1, .bool s2, .slice A2 n2 c2], .agg #[.bool s3, .slice A3 n3 c3, .bool s4, .slice A4 n4 c4]] w fun e w' => Below w.heap.size w w' ∧ e = .returned (.bool true) := by
  obtain ⟨p1, p2⟩ := h1.parts
  obtain ⟨p3, p4⟩ := h2.parts
  have e1 : x.num = y.num := by rw [hxy]
  have e2 : (x.den : Int) = (y.den : Int) := by rw [hxy]
  clear h1 h2
  go_enter Tryz.func27, Tryz.ntmps27
  go_wp2_with (first
    | (go_at_call 11; with_reducible refine (sameH p1 p3 ?_ ?_ e1).mono ?_; (focus (exact (by repeat (first | with_reducible exact Below.refl _ _ | with_reducible assumption | with_reducible refine Below.drew ?_ | with_reducible refine Below.drewN ?_ _ | with_reducible refine Below.alloc2 ?_ _ | with_reducible refine Below.alloc ?_ (by first | omega | (simp <;> omega)) _ | with_reducible refine Below.setCell ?_ (by first | omega | (simp <;> omega)) _ | with_reducible refine Below.step2 (by with_reducible assumption) ?_ | with_reducible refine Below.step (by with_reducible assumption) ?_ (by first | omega | (simp <;> omega)))))); (focus (exact (by repeat (first | with_reducible exact Below.refl _ _ | with_reducible assumption | with_reducible refine Below.drew ?_ | with_reducible refine Below.drewN ?_ _ | with_reducible refine Below.alloc2 ?_ _ | with_reducible refine Below.alloc ?_ (by first | omega | (simp <;> omega)) _ | with_reducible refine Below.setCell ?_ (by first | omega | (simp <;> omega)) _ | with_reducible refine Below.step2 (by with_reducible assumption) ?_ | with_reducible refine Below.step (by with_reducible assumption) ?_ (by first | omega | (simp <;> omega)))))); rintro e wn ⟨hbn, rfl⟩; have kx : Bk wn w.heap.size 41 #[.bool s1, .slice A1 n1 c1, .bool s2, .slice A2 n2 c2] := (by repeat (first | with_reducible assumption | with_reducible exact Bk.at_ (by first | (simp; done) | omega) | with_reducible refine Bk.alloc ?_ _ | with_reducible refine Bk.drew ?_ | with_reducible refine Bk.drewN ?_ _ | with_reducible refine Bk.step (by with_reducible assumption) ?_ (by first | omega | (simp <;> omega)))); have ky : Bk wn (w.heap.size + 1) 41 #[.bool s3, .slice A3 n3 c3, .bool s4, .slice A4 n4 c4] := (by repeat (first | with_reducible assumption | with_reducible exact Bk.at_ (by first | (simp; done) | omega) | with_reducible refine Bk.alloc ?_ _ | with_reducible refine Bk.drew ?_ | with_reducible refine Bk.drewN ?_ _ | with_reducible refine Bk.step (by with_reducible assumption) ?_ (by first | omega | (simp <;> omega)))); obtain ⟨⟨x0, x1, x2, x3⟩, -⟩ := kx.quad; obtain ⟨⟨y0, y1, y2, y3⟩, -⟩ := ky.quad; have ozn := hbn.size; (try simp at ozn); have ox := kx.lt; have oy := ky.lt)
    | (go_at_call 11; with_reducible refine (sameH p2 p4 ?_ ?_ e2).mono ?_; (focus (exact (by repeat (first | with_reducible exact Below.refl _ _ | with_reducible assumption | with_reducible refine Below.drew ?_ | with_reducible refine Below.drewN ?_ _ | with_reducible refine Below.alloc2 ?_ _ | with_reducible refine Below.alloc ?_ (by first | omega | (simp <;> omega)) _ | with_reducible refine Below.setCell ?_ (by first | omega | (simp <;> omega)) _ | with_reducible refine Below.step2 (by with_reducible assumption) ?_ | with_reducible refine Below.step (by with_reducible assumption) ?_ (by first | omega | (simp <;> omega)))))); (focus (exact (by repeat (first | with_reducible exact Below.refl _ _ | with_reducible assumption | with_reducible refine Below.drew ?_ | with_reducible refine Below.drewN ?_ _ | with_reducible refine Below.alloc2 ?_ _ | with_reducible refine Below.alloc ?_ (by first | omega | (simp <;> omega)) _ | with_reducible refine Below.setCell ?_ (by first | omega | (simp <;> omega)) _ | with_reducible refine Below.step2 (by with_reducible assumption) ?_ | with_reducible refine Below.step (by with_reducible assumption) ?_ (by first | omega | (simp <;> omega)))))); rintro e wm ⟨hbm, rfl⟩))
  go_ret
  exact ⟨(by repeat (first | with_reducible exact Below.refl _ _ | with_reducible assumption | with_reducible refine Below.drew ?_ | with_reducible refine Below.drewN ?_ _ | with_reducible refine Below.alloc2 ?_ _ | with_reducible refine Below.alloc ?_ (by first | omega | (simp <;> omega)) _ | with_reducible refine Below.setCell ?_ (by first | omega | (simp <;> omega)) _ | with_reducible refine Below.step2 (by with_reducible assumption) ?_ | with_reducible refine Below.step (by with_reducible assumption) ?_ (by first | omega | (simp <;> omega)))), rfl⟩
set_option maxHeartbeats 4000000 in
theorem brief_any (s1 t1 s2 t2 s3 t3 : Bool) (A1 B1 A2 B2 A3 B3 : Option Addr) (n1 c1 m1 d1 n2 c2 m2 d2 n3 c3 m3 d3 g : Nat) (w : World) (h : Bk w g 41 #[.bool s1, .slice A1 n1 c1, .bool t1, .slice B1 m1 d1, .bool s2, .slice A2 n2 c2, .bool t2, .slice B2 m2 d2, .bool s3, .slice A3 n3 c3, .bool t3, .slice B3 m3 d3]) :
    Calls Tryz.prog 24 #[.slice (some ⟨g, 0, none⟩) 3 3] w fun e w' => w = w' ∧ e = .returned (.bool ((decide (n1 ≤ 3) && decide (m1 ≤ 3)) && ((decide (n2 ≤ 3) && decide (m2 ≤ 3)) && (decide (n3 ≤ 3) && decide (m3 ≤ 3))))) := by
  have og := h.lt
  have e1 : w.cell? ⟨g, 1, none⟩ = some (.slice A1 n1 c1) := by simpa using h.cell 1
  have e2 : w.cell? ⟨g, 3, none⟩ = some (.slice B1 m1 d1) := by simpa using h.cell 3
  have e3 : w.cell? ⟨g, 5, none⟩ = some (.slice A2 n2 c2) := by simpa using h.cell 5
  have e4 : w.cell? ⟨g, 7, none⟩ = some (.slice B2 m2 d2) := by simpa using h.cell 7
  have e5 : w.cell? ⟨g, 9, none⟩ = some (.slice A3 n3 c3) := by simpa using h.cell 9
  have e6 : w.cell? ⟨g, 11, none⟩ = some (.slice B3 m3 d3) := by simpa using h.cell 11
  clear h
  by_cases q1 : n1 ≤ 3
  · have r1 : ¬ (3 : Int) < (n1 : Int) := by omega
    by_cases q2 : m1 ≤ 3
    · have r2 : ¬ (3 : Int) < (m1 : Int) := by omega
      by_cases q3 : n2 ≤ 3
      · have r3 : ¬ (3 : Int) < (n2 : Int) := by omega
        by_cases q4 : m2 ≤ 3
        · have r4 : ¬ (3 : Int) < (m2 : Int) := by omega
          by_cases q5 : n3 ≤ 3
          · have r5 : ¬ (3 : Int) < (n3 : Int) := by omega
            by_cases q6 : m3 ≤ 3
            · have r6 : ¬ (3 : Int) < (m3 : Int) := by omega
              (
                  go_enter Tryz.func24, Tryz.ntmps24
                  go_wp2
                  refine wp_loop_rounds 4 ?_
                  rw [rounds_succ]
                  go_wp2
                  all_goals (try (rw [rounds_succ]; go_wp2))
                  all_goals (try (rw [rounds_succ]; go_wp2))
                  all_goals (try (rw [rounds_succ]; go_wp2))
                  go_ret
                  exact ⟨rfl, ret_boolI (by simp [*] <;> omega)⟩)
            · have r6 : (3 : Int) < (m3 : Int) := by omega
              (
                  go_enter Tryz.func24, Tryz.ntmps24
                  go_wp2
                  refine wp_loop_rounds 4 ?_
                  rw [rounds_succ]
                  go_wp2
                  all_goals (try (rw [rounds_succ]; go_wp2))
                  all_goals (try (rw [rounds_succ]; go_wp2))
                  all_goals (try (rw [rounds_succ]; go_wp2))
                  go_ret
                  exact ⟨rfl, ret_boolI (by simp [*] <;> omega)⟩)
          · have r5 : (3 : Int) < (n3 : Int) := by omega
            (
                go_enter Tryz.func24, Tryz.ntmps24
                go_wp2
                refine wp_loop_rounds 4 ?_
                rw [rounds_succ]
                go_wp2
                all_goals (try (rw [rounds_succ]; go_wp2))
                all_goals (try (rw [rounds_succ]; go_wp2))
                all_goals (try (rw [rounds_succ]; go_wp2))
                go_ret
                exact ⟨rfl, ret_boolI (by simp [*] <;> omega)⟩)
        · have r4 : (3 : Int) < (m2 : Int) := by omega
          (
              go_enter Tryz.func24, Tryz.ntmps24
              go_wp2
              refine wp_loop_rounds 4 ?_
              rw [rounds_succ]
              go_wp2
              all_goals (try (rw [rounds_succ]; go_wp2))
              all_goals (try (rw [rounds_succ]; go_wp2))
              all_goals (try (rw [rounds_succ]; go_wp2))
              go_ret
              exact ⟨rfl, ret_boolI (by simp [*] <;> omega)⟩)
      · have r3 : (3 : Int) < (n2 : Int) := by omega
        (
            go_enter Tryz.func24, Tryz.ntmps24
            go_wp2
            refine wp_loop_rounds 4 ?_
            rw [rounds_succ]
            go_wp2
            all_goals (try (rw [rounds_succ]; go_wp2))
            all_goals (try (rw [rounds_succ]; go_wp2))
            all_goals (try (rw [rounds_succ]; go_wp2))
            go_ret
            exact ⟨rfl, ret_boolI (by simp [*] <;> omega)⟩)
    · have r2 : (3 : Int) < (m1 : Int) := by omega
      (
          go_enter Tryz.func24, Tryz.ntmps24
          go_wp2
          refine wp_loop_rounds 4 ?_
          rw [rounds_succ]
          go_wp2
          all_goals (try (rw [rounds_succ]; go_wp2))
          all_goals (try (rw [rounds_succ]; go_wp2))
          all_goals (try (rw [rounds_succ]; go_wp2))
          go_ret
          exact ⟨rfl, ret_boolI (by simp [*] <;> omega)⟩)
  · have r1 : (3 : Int) < (n1 : Int) := by omega
    (
        go_enter Tryz.func24, Tryz.ntmps24
        go_wp2
        refine wp_loop_rounds 4 ?_
        rw [rounds_succ]
        go_wp2
        all_goals (try (rw [rounds_succ]; go_wp2))
        all_goals (try (rw [rounds_succ]; go_wp2))
        all_goals (try (rw [rounds_succ]; go_wp2))
        go_ret
        exact ⟨rfl, ret_boolI (by simp [*] <;> omega)⟩)

end Go.Proofs.YtfnibkodccfocaaGreat

/- Texts, the program: rows of bytes that a call owns; slices.Reverse; a row as a text. -/
namespace Go.Proofs.YtfnibkodccfocaaGreat
open Go Go.RowKit

def u8s (l : List Nat) : List Value := l.map fun c => .int .u8 ((c : Nat) : Int)
/-- A row of bytes that the call owns. -/
def OB (w : World) (base : Nat) (v : Value) (l : List Nat) : Prop := w.ownsRow base 5 1 v l.length (u8s l)
section
variable {w w' : World} {base : Nat} {v : Value} {l : List Nat}
theorem OB.nil_ (w : World) (base : Nat) : OB w base (.slice none 0 0) [] := ⟨rfl, .inl ⟨rfl, rfl⟩⟩
theorem OB.keep (h : OB w base v l) (hk : ∀ k, v.ownBlock = some k → w'.heap[k]? = w.heap[k]?) : OB w' base v l := by
  refine ⟨h.1, ?_⟩
  rcases h.2 with hn | ⟨g, cap, cur, rfl, hb, hg, rest⟩
  · exact .inl hn
  · exact .inr ⟨g, cap, cur, rfl, hb, (hk g rfl).trans hg, rest⟩
theorem OB.block (h : OB w base v l) : ∀ k, v.ownBlock = some k → base ≤ k ∧ k < w.heap.size := by
  intro k hk
  rcases h.2 with ⟨rfl, -⟩ | ⟨g, cap, cur, rfl, hb, hg, -⟩
  · cases hk
  · obtain rfl : g = k := by simpa [Value.ownBlock] using hk
    refine ⟨hb, ?_⟩
    rcases Nat.lt_or_ge g w.heap.size with h | h
    · exact h
    · rw [Array.getElem?_eq_none h] at hg; cases hg
theorem OB.form (h : OB w base v l) : ∃ A c, v = .slice A l.length c := by
  rcases h.2 with ⟨rfl, hn⟩ | ⟨g, cap, cur, rfl, -⟩
  · exact ⟨none, 0, by rw [hn]⟩
  · exact ⟨_, _, rfl⟩
/-- A row that is not empty, opened. -/
theorem OB.open_ (h : OB w base v l) (hl : l ≠ []) : ∃ g cap cur, v = .slice (some ⟨g, 0, none⟩) l.length cap ∧ base ≤ g ∧ Bk w g 5 cur ∧ l.length ≤ cap ∧ cap ≤ 9223372036854775807 ∧ cur.size = cap ∧ (∀ j, j < l.length → cur[j]? = some (.int .u8 ((l.getD j 0 : Nat) : Int))) := by
  rcases h.2 with ⟨-, hn⟩ | ⟨g, cap, cur, rfl, hb, hg, h1, h2, h3, h4⟩
  · exact absurd (List.eq_nil_of_length_eq_zero hn) hl
  · refine ⟨g, cap, cur, rfl, hb, hg, h1, by unfold maxLen at h2; omega, by omega, fun j hj => ?_⟩
    rw [Nat.mul_one] at h4
    have h5 : (cur.toList.take l.length)[j]? = (u8s l)[j]? := by rw [h4]
    rw [List.getElem?_take_of_lt hj] at h5
    rw [← Array.getElem?_toList, h5]
    simp [u8s, List.getD_eq_getElem?_getD, hj]
theorem OB.close {g cap : Nat} {cur : Array Value} (hb : base ≤ g) (hk : Bk w g 5 cur) (h1 : l.length ≤ cap) (h2 : cap ≤ 9223372036854775807) (h3 : cur.size = cap) (hc : ∀ j, j < l.length → cur[j]? = some (.int .u8 ((l.getD j 0 : Nat) : Int))) : OB w base (.slice (some ⟨g, 0, none⟩) l.length cap) l := by
  refine ⟨by simp [u8s], .inr ⟨g, cap, cur, rfl, hb, hk, h1, by unfold maxLen; omega, by omega, ?_⟩⟩
  rw [Nat.mul_one]
  apply List.ext_getElem?
  intro j
  by_cases hj : j < l.length
  · rw [List.getElem?_take_of_lt hj, Array.getElem?_toList, hc j hj]
    simp [u8s, List.getD_eq_getElem?_getD, hj]
  · rw [List.getElem?_eq_none (by rw [List.length_take]; omega), List.getElem?_eq_none (by simp [u8s]; omega)]
theorem OB.cut {A : Option Addr} {n c m : Nat} (h : OB w base (.slice A n c) l) (hm : m ≤ l.length) : OB w base (.slice A m c) (l.take m) := by
  have hlm : (l.take m).length = m := by rw [List.length_take]; omega
  by_cases hl : l = []
  · subst hl
    obtain rfl : m = 0 := by simpa using hm
    rcases h.2 with ⟨h1, -⟩ | ⟨g, cap, cur, h1, hb, hg, h2, h3, h4, h5⟩
    · have h2 : A = none ∧ n = 0 ∧ c = 0 := by simpa using h1
      obtain ⟨rfl, -, rfl⟩ := h2
      exact OB.nil_ w base
    · have h6 : A = some ⟨g, 0, none⟩ ∧ n = 0 ∧ c = cap := by simpa using h1
      obtain ⟨rfl, -, rfl⟩ := h6
      exact ⟨rfl, .inr ⟨g, c, cur, rfl, hb, hg, Nat.zero_le _, h3, h4, by simp [u8s]⟩⟩
  · obtain ⟨g, cap, cur, h1, hb, hk, h2, h3, h4, h5⟩ := h.open_ hl
    have h6 : A = some ⟨g, 0, none⟩ ∧ n = l.length ∧ c = cap := by simpa using h1
    obtain ⟨rfl, rfl, rfl⟩ := h6
    have := OB.close (w := w) (l := l.take m) (g := g) (cap := c) (cur := cur) hb hk (by omega) h3 h4 (fun j hj => by
      rw [h5 j (by omega)]
      simp [List.getD_eq_getElem?_getD, List.getElem?_take]
      rw [if_pos (by omega)])
    rwa [hlm] at this
theorem OB.cell {A : Option Addr} {n c j : Nat} (h : OB w base (.slice A n c) l) (hj : j < l.length) : ∃ g, A = some ⟨g, 0, none⟩ ∧ n = l.length ∧ l.length ≤ c ∧ c ≤ 9223372036854775807 ∧ g < w.heap.size ∧ w.cell? ⟨g, j, none⟩ = some (.int .u8 ((l.getD j 0 : Nat) : Int)) := by
  obtain ⟨g, cap, cur, h1, hb, hk, h2, h3, h4, h5⟩ := h.open_ (by rintro rfl; cases hj)
  have h6 : A = some ⟨g, 0, none⟩ ∧ n = l.length ∧ c = cap := by simpa using h1
  obtain ⟨rfl, rfl, rfl⟩ := h6
  exact ⟨g, rfl, rfl, h2, h3, hk.lt, (hk.cell j).trans (h5 j hj)⟩
/-- A row of bytes as a text. -/
theorem OB.text {A : Option Addr} {n c : Nat} (h : OB w base (.slice A n c) l) (hl : l ≠ []) (hc : Codes l) : (convert 120 9 (.slice A n c)).run Tryz.prog w = .ok (.string (bs l)) w := by
  obtain ⟨g, cap, cur, h1, hb, hk, h2, h3, h4, h5⟩ := h.open_ hl
  have h6 : A = some ⟨g, 0, none⟩ ∧ n = l.length ∧ c = cap := by simpa using h1
  obtain ⟨rfl, rfl, rfl⟩ := h6
  have := run_convert_bytes_back (P := Tryz.prog) w 120 9 5 ⟨g, 0, none⟩ c (l.map UInt8.ofNat) Tryz.underlying120 Tryz.underlying5 Tryz.underlying9 (fun j hj => by
    have hj' : j < l.length := by simpa using hj
    have e : (⟨g, 0, none⟩ : Addr).add j = ⟨g, j, none⟩ := by simp [Addr.add]; exact fun h => h.symm
    rw [e, hk.cell j, h5 j hj']
    have hcj : l.getD j 0 < 256 := by
      rw [List.getD_eq_getElem?_getD, List.getElem?_eq_getElem hj']
      exact hc _ (List.getElem_mem hj')
    simp only [List.getElem_map]
    have e2 : l[j] = l.getD j 0 := by rw [List.getD_eq_getElem?_getD, List.getElem?_eq_getElem hj']; rfl
    rw [e2]
    have : (UInt8.ofNat (l.getD j 0)).toNat = l.getD j 0 := by simp only [UInt8.toNat_ofNat']; omega
    rw [this])
  rw [List.length_map] at this
  exact this
end
/-- The row when the first i and the last i have been exchanged. -/
def rvAt (l : List Nat) (i j : Nat) : Nat := if j < i ∨ l.length ≤ j + i then l.getD (l.length - 1 - j) 0 else l.getD j 0
theorem rvAt_zero {l : List Nat} {j : Nat} (hj : j < l.length) : rvAt l 0 j = l.getD j 0 := if_neg (by omega)
theorem rv_hi {l : List Nat} {i j : Nat} (h : i + j + 1 = l.length) (hij : i < j) : rvAt l (i + 1) j = rvAt l i i := by
  unfold rvAt
  rw [if_pos (by omega), if_neg (by omega)]
  congr 1
  omega
theorem rv_lo {l : List Nat} {i j : Nat} (h : i + j + 1 = l.length) (hij : i < j) : rvAt l (i + 1) i = rvAt l i j := by
  unfold rvAt
  rw [if_pos (by omega), if_neg (by omega)]
  congr 1
  omega
theorem rv_else {l : List Nat} {i j k : Nat} (h : i + j + 1 = l.length) (h1 : k ≠ i) (h2 : k ≠ j) : rvAt l (i + 1) k = rvAt l i k := by
  unfold rvAt
  by_cases hc : k < i ∨ l.length ≤ k + i
  · rw [if_pos (by omega), if_pos hc]
  · rw [if_neg (by omega), if_neg hc]
theorem grown_two {w wo : World} {g i j : Nat} (h : w.grownBy wo (some g)) (u v : Value) : w.grownBy ((wo.setCell ⟨g, i, none⟩ u).setCell ⟨g, j, none⟩ v).drew (some g) :=
  ⟨h.os, h.tape, h.output, by simpa [World.setCell] using h.size, fun k hk hne => by
    have hg : k ≠ g := fun e => hne (by rw [e])
    exact ((Below.heap_setCell _ ⟨g, j, none⟩ v k hg).trans (Below.heap_setCell _ ⟨g, i, none⟩ u k hg)).trans (h.block k hk hne)⟩
theorem rvAt_end {l : List Nat} {i j : Nat} (hi : l.length ≤ i + i + 1) (hj : j < l.length) : rvAt l i j = l.reverse.getD j 0 := by
  have e : l.reverse.getD j 0 = l.getD (l.length - 1 - j) 0 := by
    rw [List.getD_eq_getElem?_getD, List.getD_eq_getElem?_getD, List.getElem?_reverse hj]
  rw [e]
  unfold rvAt
  split
  · rfl
  · have : j = l.length - 1 - j := by omega
    rw [← this]
set_option maxRecDepth 100000 in
set_option maxHeartbeats 1600000 in
theorem reverse_any {w : World} {base n c : Nat} {A : Option Addr} {l : List Nat} (h : OB w base (.slice A n c) l) (hl : l ≠ []) (hn : l.length ≤ 100000) :
    Calls Tryz.prog 106 #[.slice A n c] w fun e w' => e = .returned (.tuple #[]) ∧ OB w' base (.slice A n c) l.reverse ∧ w.grownBy w' (Value.slice A n c).ownBlock := by
  obtain ⟨g, cap, cur0, h1, hb, hk, h2, h3, h4, h5⟩ := h.open_ hl
  have h6 : A = some ⟨g, 0, none⟩ ∧ n = l.length ∧ c = cap := by simpa using h1
  obtain ⟨rfl, rfl, rfl⟩ := h6
  have hpos : 0 < l.length := by
    rcases l with _ | ⟨x, l⟩
    · exact absurd rfl hl
    · simp
  clear h h1 hl
  obtain ⟨N, hN⟩ : ∃ N, l.length = N := ⟨_, rfl⟩
  have HN := Lib.hid hN
  rw [hN] at h2 hpos hn h5 ⊢
  go_enter Tryz.func106, Tryz.ntmps106
  go_wp2
  go_loopw [2, 3] (fun v2 v3 wr => ∃ (i : Nat) (cur : Array Value), i + i ≤ N + 1 ∧ i ≤ N ∧ v2 = .int .i64 (i : Int) ∧ v3 = .int .i64 ((N : Int) - 1 - (i : Int)) ∧ Bk wr g 5 cur ∧ cur.size = c ∧ Hid (∀ j, j < N → cur[j]? = some (.int .u8 ((rvAt l i j : Nat) : Int))) ∧ w.grownBy wr (some g)) (fun v2 _ _ => N - (intOf v2).toNat)
  case atStart => exact ⟨0, cur0, by omega, by omega, rfl, by go_num, hk, h4, Lib.hid fun j hj => by rw [h5 j hj, rvAt_zero (by rw [HN.out]; exact hj)], ⟨rfl, rfl, rfl, Nat.le_refl _, fun _ _ _ => rfl⟩⟩
  case round =>
    obtain ⟨i, cur, hi, hiN, rfl, rfl, hkr, hsz, HC, hgr⟩ := hrel
    obtain ⟨wo, rfl⟩ : ∃ x, x = wr := ⟨_, rfl⟩
    have HK := Lib.hid hkr
    have HG := Lib.hid hgr
    by_cases hlt : i + i + 1 < N
    · obtain ⟨jj, hjj⟩ : ∃ jj : Nat, jj = N - 1 - i := ⟨_, rfl⟩
      have hji : (N : Int) - 1 - (i : Int) = (jj : Int) := by omega
      rw [hji]
      have e1 : decide ((i : Int) < (jj : Int)) = true := decide_eq_true (by omega)
      have hjN : jj < N := by omega
      obtain ⟨x, hx⟩ : ∃ x, rvAt l i jj = x := ⟨_, rfl⟩
      obtain ⟨y, hy⟩ : ∃ y, rvAt l i i = y := ⟨_, rfl⟩
      have cx : wo.cell? ⟨g, jj, none⟩ = some (.int .u8 (x : Int)) := by rw [hkr.cell, HC.out jj hjN, hx]
      have cy : wo.cell? ⟨g, i, none⟩ = some (.int .u8 (y : Int)) := by rw [hkr.cell, HC.out i (by omega), hy]
      have fx := hkr.frozen jj
      have fy := hkr.frozen i
      have og := hkr.lt
      have HX := Lib.hid hx
      have HY := Lib.hid hy
      have zi : (0 : Int) ≤ (i : Int) := by omega
      have zj : (0 : Int) ≤ (jj : Int) := by omega
      have ziN : (i : Int) < (N : Int) := by omega
      have zjN : (jj : Int) < (N : Int) := by omega
      have hij : i < jj := by omega
      have hja : jj + i + 1 ≤ N := by omega
      have hjb : N ≤ jj + i + 1 := by omega
      clear hkr hgr hx hy hjj hji
      go_upto_region 3 with fail
      have HCR : Hid ((fun w' : World => w'.cell? ⟨g, jj, none⟩ = some (.int .u8 (x : Int)) ∧ w'.cell? ⟨g, i, none⟩ = some (.int .u8 (y : Int))) wo.drew) := Lib.hid ⟨cx, cy⟩
      refine region_goes (n := 16) (fun w' => w'.cell? ⟨g, jj, none⟩ = some (.int .u8 (x : Int)) ∧ w'.cell? ⟨g, i, none⟩ = some (.int .u8 (y : Int))) [13, 14, 15] (by kernel_rfl) rfl ?_
      refine goes_takeE (i := 0) (E := [13, 14, 15]) (v := .slice (some ⟨g, 0, none⟩) N c) rfl (by kernel_rfl) rfl (fun _ _ _ h => h) (by intro w' hw'; obtain ⟨z0, z1⟩ := hw'; go_simp) HCR.out ?_
      refine goes_takeE (i := 1) (E := [13, 14, 15]) (v := .int .i64 (i : Int)) rfl (by kernel_rfl) rfl (fun _ _ _ h => h) (by intro w' hw'; obtain ⟨z0, z1⟩ := hw'; go_simp) HCR.out ?_
      refine goes_takeE (i := 4) (E := [13, 14, 15]) (v := .slice (some ⟨g, 0, none⟩) N c) rfl (by kernel_rfl) rfl (fun _ _ _ h => h) (by intro w' hw'; obtain ⟨z0, z1⟩ := hw'; go_simp) HCR.out ?_
      refine goes_takeE (i := 5) (E := [13, 14, 15]) (v := .int .i64 (jj : Int)) rfl (by kernel_rfl) rfl (fun _ _ _ h => h) (by intro w' hw'; obtain ⟨z0, z1⟩ := hw'; go_simp) HCR.out ?_
      refine goes_takeE (i := 6) (E := [13, 14, 15]) (v := .pointer (some ⟨g, jj, none⟩)) rfl (by kernel_rfl) rfl (fun _ _ _ h => h) (by intro w' hw'; obtain ⟨z0, z1⟩ := hw'; go_simp) HCR.out ?_
      refine goes_takeE (i := 7) (E := [13, 14, 15]) (v := .int .u8 (x : Int)) rfl (by kernel_rfl) rfl (fun _ _ _ h => h) (by intro w' hw'; obtain ⟨z0, z1⟩ := hw'; go_simp) HCR.out ?_
      refine goes_pure (i := 8) (v := .slice (some ⟨g, 0, none⟩) N c) rfl (by kernel_rfl) rfl (fun _ _ _ h => h) (by intro w'; go_simp) HCR.out ?_
      refine goes_pure (i := 9) (v := .int .i64 (i : Int)) rfl (by kernel_rfl) rfl (fun _ _ _ h => h) (by intro w'; go_simp) HCR.out ?_
      refine goes_takeE (i := 10) (E := [11, 13, 14, 15]) (v := .pointer (some ⟨g, i, none⟩)) rfl (by kernel_rfl) rfl (fun _ _ _ h => h) (by intro w' hw'; obtain ⟨z0, z1⟩ := hw'; go_simp) HCR.out ?_
      refine goes_takeE (i := 11) (E := [13, 14, 15]) (v := .int .u8 (y : Int)) rfl (by kernel_rfl) rfl (fun _ _ _ h => h) (by intro w' hw'; obtain ⟨z0, z1⟩ := hw'; go_simp) HCR.out ?_
      refine goes_pure (i := 2) (v := .slice (some ⟨g, 0, none⟩) N c) rfl (by kernel_rfl) rfl (fun _ _ _ h => h) (by intro w'; go_simp) HCR.out ?_
      refine goes_pure (i := 3) (v := .int .i64 (jj : Int)) rfl (by kernel_rfl) rfl (fun _ _ _ h => h) (by intro w'; go_simp) HCR.out ?_
      refine goes_takeE (i := 12) (E := [13, 14, 15]) (v := .pointer (some ⟨g, i, none⟩)) rfl (by kernel_rfl) rfl (fun _ _ _ h => h) (by intro w' hw'; obtain ⟨z0, z1⟩ := hw'; go_simp) HCR.out ?_
      refine goes_last (i := 13) rfl (by kernel_rfl) (by kernel_rfl) ?_
      go_wp2_with fail
      refine behind_ok ?_
      refine goes_last (i := 14) rfl (by kernel_rfl) (by kernel_rfl) ?_
      go_wp2_with fail
      refine behind_ok ?_
      have hk1 : Bk ((wo.drew).setCell ⟨g, i, none⟩ (.int .u8 (x : Int))) g 5 (cur.setIfInBounds i (.int .u8 (x : Int))) := HK.out.set_ i _
      have cj : ((wo.drew).setCell ⟨g, i, none⟩ (.int .u8 (x : Int))).cell? ⟨g, jj, none⟩ = some (.int .u8 (x : Int)) := by
        rw [hk1.cell, Array.getElem?_setIfInBounds_ne (by omega)]
        rw [HC.out jj hjN, HX.out]
      have fj := hk1.frozen jj
      refine goes_last (i := 15) rfl (by kernel_rfl) (by kernel_rfl) ?_
      go_wp2_with fail
      refine behind_ok (goes_done (by kernel_rfl) ?_)
      go_wp2
      go_roundw
      case rel =>
        refine ⟨i + 1, (cur.setIfInBounds i (.int .u8 (x : Int))).setIfInBounds jj (.int .u8 (y : Int)), by omega, by omega, by go_num, by go_num, hk1.set_ jj _, by simp [hsz], Lib.hid fun j hj => ?_, ?_⟩
        · have hsum : i + jj + 1 = l.length := by rw [HN.out]; omega
          by_cases h1 : j = jj
          · subst h1
            rw [Array.getElem?_setIfInBounds_self, if_pos (by simp; omega), rv_hi hsum hij, HY.out]
          · rw [Array.getElem?_setIfInBounds_ne (Ne.symm h1)]
            by_cases h2 : j = i
            · subst h2
              rw [Array.getElem?_setIfInBounds_self, if_pos (by omega), rv_lo hsum hij, HX.out]
            · rw [Array.getElem?_setIfInBounds_ne (Ne.symm h2), HC.out j hj, rv_else hsum h2 h1]
        · exact grown_two HG.out _ _
      case measure => simp [intOf]; omega
    · have e1 : decide ((i : Int) < ((N : Int) - 1 - (i : Int))) = false := decide_eq_false (by omega)
      have HO : Hid (OB wo base (.slice (some ⟨g, 0, none⟩) N c) l.reverse) := Lib.hid (by
        have hlr : l.reverse.length = N := by rw [List.length_reverse, HN.out]
        have := OB.close (w := wo) (base := base) (l := l.reverse) (g := g) (cap := c) (cur := cur) hb HK.out (by omega) h3 hsz (fun j hj => by
          rw [HC.out j (by omega), rvAt_end (by rw [HN.out]; omega) (by rw [HN.out]; omega)])
        rwa [hlr] at this)
      go_wp2
      refine bodyPost_end (results_none rfl _ _ _) rfl ?_
      exact ⟨rfl, HO.out, HG.out⟩

end Go.Proofs.YtfnibkodccfocaaGreat

/- Texts, the program: decimal. -/
namespace Go.Proofs.YtfnibkodccfocaaGreat
open Go Go.RowKit

theorem info_u8 : (Tryz.prog.info? 5).map (fun i => (i.zero, i.size, i.bytes)) = some (some (.int .u8 0), 1, 1) := by kernel_rfl
theorem Fr.below_ {w a b : World} {S : Nat → Prop} (f : Fr S a b) (h : Below w.heap.size w a) (hS : ∀ k, S k → w.heap.size ≤ k) : Below w.heap.size w b :=
  ⟨f.os.trans h.os, f.tape.trans h.tape, f.output.trans h.output, Nat.le_trans h.size f.size, fun k hk => (f.block k (Nat.lt_of_lt_of_le hk h.size) (fun s => absurd (hS k s) (by omega))).trans (h.block k hk)⟩
theorem below_grown {w a b : World} {row : Option Nat} (h : Below w.heap.size w a) (g : a.grownBy b row) (hr : ∀ k, row = some k → w.heap.size ≤ k) : Below w.heap.size w b :=
  ⟨g.os.trans h.os, g.tape.trans h.tape, g.output.trans h.output, Nat.le_trans h.size g.size, fun k hk => (g.block k (Nat.lt_of_lt_of_le hk h.size) (fun e => absurd (hr k e.symm) (by omega))).trans (h.block k hk)⟩
theorem DivS.keep {w w' : World} {gd base : Nat} {vq vr vb : Value} {lq lr lb : List Nat} (h : DivS w gd base vq vr vb lq lr lb) (hk : ∀ k, DS gd vq vr vb k → w'.heap[k]? = w.heap[k]?) : DivS w' gd base vq vr vb lq lr lb :=
  ⟨(hk gd (.inl rfl)).trans h.bk, h.q.keep fun k e => hk k (.inr (.inl e)), h.r.keep fun k e => hk k (.inr (.inr (.inl e))), h.b.keep fun k e => hk k (.inr (.inr (.inr e))), h.qr, h.qb, h.rb⟩
theorem DivS.lt {w : World} {gd base : Nat} {vq vr vb : Value} {lq lr lb : List Nat} (h : DivS w gd base vq vr vb lq lr lb) : ∀ k, DS gd vq vr vb k → k < w.heap.size := by
  rintro k (rfl | e | e | e)
  · exact h.bk.lt
  · exact (h.q.block k e).2
  · exact (h.r.block k e).2
  · exact (h.b.block k e).2
theorem m_bound {m v K : Nat} (h : 10 ^ (9 * m) ≤ v) (hv : v < W K) : 9 * m < 10 * K := by
  have h2 : W K ≤ 10 ^ (10 * K) := by
    rw [Nat.pow_mul]
    exact Nat.pow_le_pow_left (by decide) K
  exact (Nat.pow_lt_pow_iff_right (by decide)).1 (Nat.lt_of_le_of_lt h (Nat.lt_of_lt_of_le hv h2))
/-- The codes of k digits, the last one first. -/
def cds (k n : Nat) : List Nat := (pd k n).map (· + 48)
theorem cds_len (k n : Nat) : (cds k n).length = k := by simp [cds, pd_len]
theorem cds_snoc (k n : Nat) : cds (k + 1) n = cds k n ++ [n / 10 ^ k % 10 + 48] := by
  unfold cds
  rw [pd_add k 1 n, List.map_append]
  rfl
theorem cds_add (m n : Nat) : cds (9 * (m + 1)) n = cds (9 * m) n ++ cds 9 (n / 10 ^ (9 * m) % 1000000000) := by
  unfold cds
  rw [show 9 * (m + 1) = 9 * m + 9 by omega, pd_add, List.map_append]
  congr 2
  exact (pd_mod 9 (n / 10 ^ (9 * m))).symm
theorem cds_codes (k n : Nat) : Codes (cds k n) := by
  intro c hc
  obtain ⟨x, hx, rfl⟩ := List.mem_map.1 hc
  have : ∀ k n x, x ∈ pd k n → x < 10 := by
    intro k
    induction k with
    | zero => intro n x hx; cases hx
    | succ k ih =>
      intro n x hx
      rcases List.mem_cons.1 hx with rfl | hx
      · omega
      · exact ih _ _ hx
  have := this k n x hx
  omega
/-- The state of decimal at a round's head. -/
structure DecS (w0 wr : World) (gd : Nat) (vq vr vb vo : Value) (lq lr lb : List Nat) (A : Option Addr) (n c : Nat) (la out : List Nat) : Prop where
  d : DivS wr gd w0.heap.size vq vr vb lq lr lb
  l : Lim wr wr.heap.size A n c la
  nl : Norm la
  off : 0 < n → ∀ ad, A = some ad → ¬ DS gd vq vr vb ad.block ∧ vo.ownBlock ≠ some ad.block
  o : OB wr w0.heap.size vo out
  od : ∀ k, vo.ownBlock = some k → ¬ DS gd vq vr vb k
  gd : w0.heap.size ≤ gd
  below : Below w0.heap.size w0 wr
theorem u8s_append (a b : List Nat) : u8s (a ++ b) = u8s a ++ u8s b := by simp [u8s]
theorem OB.snoc {w : World} {base : Nat} {v : Value} {l : List Nat} {c : Nat} (h : w.ownsRow base 5 1 v (l.length + 1) (u8s l ++ [.int .u8 (c : Int)])) : OB w base v (l ++ [c]) := by
  unfold OB
  rw [List.length_append, u8s_append]
  exact h
def slen : Value → Nat
  | .slice _ n _ => n
  | _ => 0
theorem cut_last {xs : List Nat} (h : xs ≠ []) (h0 : xs.getD (xs.length - 1) 0 = 0) : cutz (xs.take (xs.length - 1)) = cutz xs := by
  obtain ⟨ys, y, rfl⟩ : ∃ ys y, xs = ys ++ [y] := by
    rcases List.eq_nil_or_concat xs with e | ⟨m, c, e⟩
    · exact absurd e h
    · exact ⟨m, c, by simpa using e⟩
  have hy : y = 0 := by simpa [List.getD_eq_getElem?_getD] using h0
  subst hy
  rw [cutz_snoc]
  simp
theorem cut_not {xs : List Nat} (h : xs ≠ []) (h0 : xs.getD (xs.length - 1) 0 ≠ 0) : cutz xs = xs := by
  obtain ⟨ys, y, rfl⟩ : ∃ ys y, xs = ys ++ [y] := by
    rcases List.eq_nil_or_concat xs with e | ⟨m, c, e⟩
    · exact absurd e h
    · exact ⟨m, c, by simpa using e⟩
  have hy : y ≠ 0 := by simpa [List.getD_eq_getElem?_getD] using h0
  exact cutz_last hy
set_option maxRecDepth 100000 in
set_option maxHeartbeats 1600000 in
theorem decimal_any {w : World} {A0 : Option Addr} {n0 c0 : Nat} {l0 : List Nat} (h : Lim w w.heap.size A0 n0 c0 l0) (na : Norm l0) (hn : n0 ≤ 1000) :
    Calls Tryz.prog 81 #[.slice A0 n0 c0] w fun e w' => Below w.heap.size w w' ∧ e = .returned (.string (bs (dec (val l0)))) := by
  obtain ⟨i0, hi0, hz0, hz1, hz2⟩ := info_parts info_u8
  have HI0 := Lib.hid hi0
  have HZ0 := Lib.hid hz0
  have HZ1 := Lib.hid hz1
  have HZ2 := Lib.hid hz2
  obtain ⟨v, hv⟩ : ∃ v, val l0 = v := ⟨_, rfl⟩
  have hvW : v < W 1000 := by
    rw [← hv]
    exact Nat.lt_of_lt_of_le (val_lt h.bd) (by rw [h.len]; exact W_mono hn)
  have HVW := Lib.hid hvW
  rw [hv]
  clear hi0 hz0 hz1 hz2 hvW
  go_enter Tryz.func81, Tryz.ntmps81
  go_upto_region 3 with fail
  obtain ⟨T, hT⟩ : ∃ T, T = (w.alloc (.cells #[.slice none 0 0, .slice none 0 0, .slice none 0 0] 118)) := ⟨_, rfl⟩
  have hbT : Below w.heap.size w T := by rw [hT]; exact (by repeat (first | with_reducible exact Below.refl _ _ | with_reducible assumption | with_reducible refine Below.drew ?_ | with_reducible refine Below.drewN ?_ _ | with_reducible refine Below.alloc2 ?_ _ | with_reducible refine Below.alloc ?_ (by first | omega | (simp <;> omega)) _ | with_reducible refine Below.setCell ?_ (by first | omega | (simp <;> omega)) _ | with_reducible refine Below.step2 (by with_reducible assumption) ?_ | with_reducible refine Below.step (by with_reducible assumption) ?_ (by first | omega | (simp <;> omega))))
  have hkT : Bk T w.heap.size 118 #[.slice none 0 0, .slice none 0 0, .slice none 0 0] := by rw [hT]; exact (by repeat (first | with_reducible assumption | with_reducible exact Bk.at_ (by first | (simp; done) | omega) | with_reducible refine Bk.alloc ?_ _ | with_reducible refine Bk.drew ?_ | with_reducible refine Bk.drewN ?_ _ | with_reducible refine Bk.step (by with_reducible assumption) ?_ (by first | omega | (simp <;> omega))))
  have HS0 : Hid (DecS w T w.heap.size (.slice none 0 0) (.slice none 0 0) (.slice none 0 0) (.slice none 0 0) [] [] [] A0 n0 c0 l0 []) := Lib.hid ⟨⟨hkT, OwnL.nil_ _ _ _, OwnL.nil_ _ _ _, OwnL.nil_ _ _ _, (fun _ h => by cases h), (fun _ h => by cases h), (fun _ h => by cases h)⟩, h.below hbT (Nat.le_refl _) hbT.size, na, (fun hpos ad had => by
      obtain ⟨b, o, e, hb, -⟩ := h.sl.cells hpos
      rw [had] at e
      obtain rfl : ad = ⟨b, o, none⟩ := Option.some.inj e
      refine ⟨?_, by simp [Value.ownBlock]⟩
      rintro (e | e | e | e)
      · simp at e; omega
      · cases e
      · cases e
      · cases e), OB.nil_ _ _, (fun _ h => by cases h), Nat.le_refl _, hbT⟩
  rw [← hT]
  clear hT hbT hkT
  go_loopg [0, 3] v (fun g v0 v3 wr => ∃ (m : Nat) (vq vr vb vo : Value) (lq lr lb : List Nat) (A : Option Addr) (n c : Nat) (la : List Nat), v0 = .slice A n c ∧ vo = v3 ∧ val la ≤ g ∧ Hid (val la = v / 10 ^ (9 * m)) ∧ n ≤ 1000 ∧ m ≤ 2000 ∧ Hid (DecS w wr w.heap.size vq vr vb vo lq lr lb A n c la (cds (9 * m) v)))
  case atStart => exact ⟨0, _, _, _, _, _, _, _, A0, n0, c0, l0, rfl, rfl, by omega, Lib.hid (by rw [hv]; simp), hn, by omega, HS0⟩
  case round =>
    obtain ⟨m, vq, vr, vb, vo, lq, lr, lb, A, n, c, la, rfl, rfl, hg, HV, hn1, hm1, HS⟩ := hrel
    obtain ⟨wo, rfl⟩ : ∃ x, x = wr := ⟨_, rfl⟩
    rcases Nat.eq_zero_or_pos n with hz | hpos
    · subst hz
      have hla : la = [] := List.eq_nil_of_length_eq_zero HS.out.l.len
      have hv0 : v / 10 ^ (9 * m) = 0 := by rw [← HV.out, hla]; rfl
      have hvm : v < 10 ^ (9 * m) := by
        rcases Nat.lt_or_ge v (10 ^ (9 * m)) with h | h
        · exact h
        · have := Nat.div_pos h (Nat.pow_pos (by omega))
          omega
      have hcz := cutz_pd _ _ hvm
      have HCZ := Lib.hid hcz
      have ho := HS.out.o
      obtain ⟨Ao, co, rfl⟩ := ho.form
      rw [cds_len] at ho ⊢
      have HO := Lib.hid ho
      have HBL := Lib.hid HS.out.below
      have hlen : (pd (9 * m) v).length = 9 * m := pd_len _ _
      have hm9 : 9 * m ≤ 18000 := by omega
      obtain ⟨xs0, hxs0⟩ : ∃ xs0, pd (9 * m) v = xs0 := ⟨_, rfl⟩
      unfold cds at HO
      rw [hxs0] at HCZ HO hlen
      rw [← hlen] at HO ⊢
      rw [← hlen] at hm9
      clear hv0 hvm hcz ho HS HV hla hg hxs0 hm1 hn1 hlen h na
      go_wp2
      go_loop [3] (fun v3 => ∃ (xs : List Nat) (A : Option Addr) (c : Nat), v3 = .slice A xs.length c ∧ xs.length ≤ 18000 ∧ Hid (OB wo w.heap.size (.slice A xs.length c) (xs.map (· + 48))) ∧ Hid (cutz xs = dl v)) (fun v3 => slen v3)
      case atStart => exact ⟨xs0, Ao, co, rfl, hm9, HO, HCZ⟩
      case round =>
        clear hm9 HO HCZ
        obtain ⟨xs, A, c, rfl, hxl, HO, HCZ⟩ := hrel
        by_cases hx : xs = []
        · subst hx
          have hv0 : v = 0 := by
            rcases Nat.eq_zero_or_pos v with h | h
            · exact h
            · have := HCZ.out
              rw [dl_pos (by omega)] at this
              cases this
          have HV0 : Hid (bs (dec v) = ⟨#[48]⟩) := Lib.hid (by rw [hv0]; rfl)
          have hz : ((([] : List Nat).length : Nat) : Int) = 0 := rfl
          clear hv0 HCZ HO
          go_wp2
          go_ret
          exact ⟨HBL.out, by rw [HV0.out]; rfl⟩
        · obtain ⟨N, hN⟩ : ∃ N, xs.length = N := ⟨_, rfl⟩
          have hN1 : 0 < N := by
            rw [← hN]
            rcases xs with _ | ⟨x, xs⟩
            · exact absurd rfl hx
            · simp
          obtain ⟨g, rfl, -, hNc, hcm, hglt, hcell⟩ := HO.out.cell (j := N - 1) (by rw [List.length_map]; omega)
          have hzv : (xs.map (· + 48)).getD (N - 1) 0 = xs.getD (N - 1) 0 + 48 := by
            have : N - 1 < xs.length := by omega
            simp [List.getD_eq_getElem?_getD, this]
          rw [hzv] at hcell
          rw [List.length_map] at hNc
          rw [hN] at hNc hxl ⊢
          obtain ⟨y, hy⟩ : ∃ y, xs.getD (N - 1) 0 = y := ⟨_, rfl⟩
          rw [hy] at hcell
          obtain ⟨jj, hjj⟩ : ∃ jj, N - 1 = jj := ⟨_, rfl⟩
          have hji : (N : Int) - 1 = (jj : Int) := by omega
          have zj : (0 : Int) ≤ (jj : Int) := by omega
          have zjN : (jj : Int) < (N : Int) := by omega
          have zjc : jj ≤ c := by omega
          have hgt : decide ((N : Int) > 0) = true := decide_eq_true (by omega)
          rw [hjj] at hcell
          by_cases hy0 : y = 0
          · have e1 : (((y + 48 : Nat) : Int) == 48) = true := by simpa using (show ((y + 48 : Nat) : Int) = 48 by omega)
            have HN : Hid (OB wo w.heap.size (.slice (some ⟨g, 0, none⟩) (xs.take jj).length c) ((xs.take jj).map (· + 48))) := Lib.hid (by
              have := HO.out.cut (m := jj) (by rw [List.length_map]; omega)
              rw [List.map_take]
              rwa [List.length_take, show min jj xs.length = jj by omega])
            have HCN : Hid (cutz (xs.take jj) = dl v) := Lib.hid (by rw [← hjj, ← hN, cut_last hx (by rw [hN, hy, hy0]), HCZ.out])
            have hlt : (xs.take jj).length = jj := by rw [List.length_take]; omega
            obtain ⟨z, hzz⟩ : ∃ z, y + 48 = z := ⟨_, rfl⟩
            rw [hzz] at hcell e1
            clear hy hy0 hzz hzv HO HCZ hx
            go_wp2
            go_round
            case rel => exact ⟨xs.take jj, some ⟨g, 0, none⟩, c, by rw [hlt], by omega, HN, HCN⟩
            case measure => simp [slen]; omega
          · have e1 : (((y + 48 : Nat) : Int) == 48) = false := by simpa using (show ¬ ((y + 48 : Nat) : Int) = 48 by omega)
            have hxd : xs = dl v := by rw [← HCZ.out, cut_not hx (by rw [hN, hy]; exact hy0)]
            have hv0 : v ≠ 0 := by
              rintro rfl
              rw [dl_zero] at hxd
              exact hx hxd
            have hne : xs.map (· + 48) ≠ [] := by simpa using hx
            have hrn : (xs.map (· + 48)).reverse ≠ [] := by simpa using hx
            have hdec : (xs.map (· + 48)).reverse = dec v := by
              unfold dec
              rw [if_neg hv0, hxd, List.map_reverse]
            have hn0 : ((N : Int) == 0) = false := by simpa using (show ¬ (N : Int) = 0 by omega)
            have HO2 : Hid (OB wo w.heap.size (.slice (some ⟨g, 0, none⟩) N c) (xs.map (· + 48))) := Lib.hid (by have := HO.out; rwa [hN] at this)
            have HNE := Lib.hid hne
            have HRN := Lib.hid hrn
            have HD := Lib.hid hdec
            have HL : Hid ((xs.map (· + 48)).length ≤ 100000) := Lib.hid (by rw [List.length_map]; omega)
            obtain ⟨z, hzz⟩ : ∃ z, y + 48 = z := ⟨_, rfl⟩
            rw [hzz] at hcell e1
            clear hy hy0 hzz hzv HO HCZ hx hxd hv0 hne hrn hdec hN
            go_upto_region 17 with (go_at_call 106; go_loud ((refine (reverse_any HO2.out HNE.out HL.out).mono ?_); rintro e w2 ⟨rfl, ho2, hg2⟩; have HR := Lib.hid ho2; have HG := Lib.hid hg2; clear ho2 hg2))
            have htx := HR.out.text HRN.out (by rw [HD.out]; exact dec_codes v)
            rw [HD.out] at htx
            obtain ⟨SD, hSD⟩ : ∃ SD, bs (dec v) = SD := ⟨_, rfl⟩
            have HSD := Lib.hid hSD
            rw [hSD] at htx
            clear hSD
            go_wp2
            go_ret
            refine ⟨?_, by rw [HSD.out]; rfl⟩
            exact below_grown HBL.out HG.out (fun k hk => (HO2.out.block k hk).1)
    · have hvl : 0 < val la := by
        rcases Nat.eq_zero_or_pos (val la) with h | h
        · have h1 := norm_len_le (k := 0) HS.out.nl (by rw [h]; decide)
          have h2 := HS.out.l.len
          omega
        · exact h
      have hmb : 9 * m < 10 * 1000 := by
        refine m_bound ?_ HVW.out
        rcases Nat.lt_or_ge v (10 ^ (9 * m)) with h | h
        · have h1 := HV.out
          rw [Nat.div_eq_of_lt h] at h1
          omega
        · exact h
      have hlen := HS.out.l.len
      have hwo := HS.out.below.size
      have hgt : decide ((n : Int) > 0) = true := decide_eq_true (by omega)
      obtain ⟨Ao, co, hvo⟩ := HS.out.o.form
      rw [cds_len] at hvo
      have HVL := Lib.hid hvl
      clear hvl hm1 h na
      go_upto_region 5 with (go_at_call 104; go_loud ((refine (byLimb_any w.heap.size w.heap.size n c 1000000000 A la vq vr vb lq lr lb wo HS.out.d hwo (Nat.le_refl _) HS.out.l (fun hp => fun ad e => (HS.out.off hp ad e).1) (by omega) (by omega) hpos (by omega)).mono ?_); rintro e w2 ⟨rfl, vq2, vr2, vb2, lq2, lr2, lb2, hD2, nq2, hq2, nr2, hr2, hF2, hS2⟩; have HD2 := Lib.hid hD2; have HNQ := Lib.hid nq2; have HQ2 := Lib.hid hq2; have HNR := Lib.hid nr2; have HR2 := Lib.hid hr2; have HF2 := Lib.hid hF2; have HS2 := Lib.hid hS2; clear hD2 nq2 hq2 nr2 hr2 hF2 hS2))
      obtain ⟨Aq, cq, hvq⟩ := HD2.out.q.form
      obtain ⟨Ar, cr, hvr⟩ := HD2.out.r.form
      have hb2 := HD2.out.bk
      rw [hvq, hvr] at hb2
      have k0 : w2.cell? ⟨w.heap.size, 0, none⟩ = some (.slice Aq lq2.length cq) := by simpa using hb2.cell 0
      have k1 : w2.cell? ⟨w.heap.size, 1, none⟩ = some (.slice Ar lr2.length cr) := by simpa using hb2.cell 1
      have ow2 := hb2.lt
      have HQO : Hid (OwnL w2 w.heap.size 75 (.slice Aq lq2.length cq) lq2) := Lib.hid (by have := HD2.out.q; rwa [hvq] at this)
      have HRO : Hid (OwnL w2 w.heap.size 75 (.slice Ar lr2.length cr) lr2) := Lib.hid (by have := HD2.out.r; rwa [hvr] at this)
      have hql : lq2.length ≤ 1000 := by
        refine norm_len_le HNQ.out ?_
        rw [HQ2.out]
        refine Nat.lt_of_le_of_lt (Nat.div_le_self _ _) (Nat.lt_of_lt_of_le (val_lt HS.out.l.bd) (W_mono (by omega)))
      have hrl : lr2.length ≤ 1 := by
        refine norm_len_le HNR.out ?_
        rw [HR2.out]
        exact Nat.lt_of_lt_of_le (Nat.mod_lt _ (by omega)) (by decide)
      have HVQ := Lib.hid hvq
      have HVR := Lib.hid hvr
      clear hvq hvr hb2
      go_upto_region 7 with (first
        | (go_at_call 53; go_loud ((refine (word_any Ar lr2.length cr lr2 w3.heap.size _ (HRO3.out.lim') (by omega)).mono ?_); rintro e w4 ⟨rfl, rfl⟩))
        | (go_at_call 105; (refine (clone_any Aq lq2.length cq lq2 w2.heap.size w2 HQO.out.lim' (Nat.le_refl _) (by omega)).mono ?_); rintro e w3 ⟨hb3, v3, rfl, ho3⟩; obtain ⟨A3, c3, rfl⟩ := ho3.form; have HRO3 := Lib.hid (HRO.out.keep (w' := w3) (fun k hk => hb3.block k (HRO.out.block k hk).2)); have k1' : w3.cell? ⟨w.heap.size, 1, none⟩ = some (.slice Ar lr2.length cr) := (hb3.cell (p := ⟨w.heap.size, 1, none⟩) ow2).trans k1; have HB3 := Lib.hid hb3; have HO3 := Lib.hid ho3; have ow3 := hb3.size; clear hb3 ho3 k0 k1))
      obtain ⟨r, hr⟩ : ∃ r, val lr2 = r := ⟨_, rfl⟩
      have hr9 : r < 1000000000 := by rw [← hr, HR2.out]; exact Nat.mod_lt _ (by omega)
      have HR : Hid (v / 10 ^ (9 * m) % 1000000000 = r) := Lib.hid (by rw [← hr, HR2.out, HV.out])
      rw [hr]
      have hbo := fun k hk => (HS.out.o.block k hk)
      have hdo := HS.out.od
      have ho3 : OB w3 w.heap.size vo (cds (9 * m) v) := (HS.out.o.keep (w' := w2) (fun k hk => HF2.out.block k (hbo k hk).2 (hdo k hk))).keep (fun k hk => HB3.out.block k (Nat.lt_of_lt_of_le (hbo k hk).2 HF2.out.size))
      rw [hvo] at ho3 hbo hdo
      have HOO := Lib.hid ho3
      have HBO := Lib.hid hbo
      have HDO := Lib.hid hdo
      have hw32 : wo.heap.size ≤ w3.heap.size := Nat.le_trans HF2.out.size ow3
      have hm9 : 9 * m ≤ 10000 := by omega
      clear ho3 hbo hdo hr HVQ HVR HQO HRO hrl k1'
      go_wp2
      go_loopw [3, 5, 17] (fun v3 v5 v17 wi => ∃ (i : Nat) (A' : Option Addr) (c' : Nat), i ≤ 9 ∧ v17 = .int .i64 (i : Int) ∧ v5 = .int .u64 ((r / 10 ^ i : Nat) : Int) ∧ v3 = .slice A' (9 * m + i) c' ∧ Hid (OB wi w.heap.size (.slice A' (9 * m + i) c') (cds (9 * m) v ++ cds i r)) ∧ Hid (Fr (fun k => (Value.slice Ao (9 * m) co).ownBlock = some k) w3 wi) ∧ Hid (∀ k, (Value.slice A' (9 * m + i) c').ownBlock = some k → (Value.slice Ao (9 * m) co).ownBlock = some k ∨ w3.heap.size ≤ k)) (fun _ _ v17 _ => 9 - (intOf v17).toNat)
      case atStart => exact ⟨0, Ao, co, by omega, rfl, by simp, rfl, Lib.hid (by simpa [cds, pd] using HOO.out), Lib.hid (Fr.refl _ _), Lib.hid fun k hk => .inl hk⟩
      case round =>
        obtain ⟨i, A', c', hi, rfl, rfl, rfl, HO, HFR, HNB⟩ := hrel
        obtain ⟨wi, rfl⟩ : ∃ x, x = wr := ⟨_, rfl⟩
        rcases Nat.lt_or_ge i 9 with hlt | hge
        · obtain ⟨x, hx⟩ : ∃ x, r / 10 ^ i = x := ⟨_, rfl⟩
          have hxr : x < 1000000000 := by rw [← hx]; exact Nat.lt_of_le_of_lt (Nat.div_le_self _ _) hr9
          obtain ⟨x2, hx2⟩ : ∃ x2, x / 10 = x2 := ⟨_, rfl⟩
          have HX2 : Hid (r / 10 ^ (i + 1) = x2) := Lib.hid (by rw [← hx2, ← hx, Nat.div_div_eq_div_mul, Nat.pow_succ])
          obtain ⟨d, hd⟩ : ∃ d, x % 10 = d := ⟨_, rfl⟩
          have hd10 : d < 10 := by omega
          obtain ⟨ch, hch⟩ : ∃ ch, d + 48 = ch := ⟨_, rfl⟩
          have HCD : Hid (cds (9 * m) v ++ cds (i + 1) r = (cds (9 * m) v ++ cds i r) ++ [ch]) := Lib.hid (by rw [cds_snoc, hx, hd, hch, List.append_assoc])
          have hxi : (x : Int) / 10 = (x2 : Int) := by omega
          have hxm : (x : Int) % 10 = (d : Int) := by omega
          have hadd : (48 : Int) + (d : Int) = (ch : Int) := by omega
          have hch256 : ch < 256 := by omega
          have hw1 : IntKind.u8.wrap (d : Int) = (d : Int) := by unfold IntKind.wrap; simp [IntKind.bits, IntKind.signed]; omega
          have hw2 : IntKind.u8.wrap (ch : Int) = (ch : Int) := by unfold IntKind.wrap; simp [IntKind.bits, IntKind.signed]; omega
          have hlc : (cds (9 * m) v ++ cds i r).length = 9 * m + i := by rw [List.length_append, cds_len, cds_len]
          have HLC := Lib.hid hlc
          have owi := HFR.out.size
          have hwow : w.heap.size ≤ wi.heap.size := by omega
          have hown : wi.ownsRow w.heap.size 5 1 (.slice A' (9 * m + i) c') (9 * m + i) (u8s (cds (9 * m) v ++ cds i r)) := by have := HO.out; unfold OB at this; rwa [hlc] at this
          have HOWN := Lib.hid hown
          rw [hx]
          clear hx hx2 hd hch hown hlc
          go_wp2_with (at_builtin; refine wpList_append_own_at _ rfl _ _ _ rfl w.heap.size 5 i0 _ 1 1 Tryz.underlying120 HI0.out HZ0.out HZ1.out HZ2.out rfl (by omega) _ _ _ rfl (HOWN.out.alloc _) ⟨wi.heap.size, 0, none⟩ 1 1 [.int .u8 (ch : Int)] rfl rfl (World.news_of_block (cs := #[.int .u8 (ch : Int)]) (t := 5) (fr := (0, 0)) (heap_alloc_new wi _)) (by intro u hu; simp at hu; subst hu; rfl) (by unfold maxLen; omega) (by omega) (by simp; omega) ?_; intro v1 w1 hown1 hg1 _ hat1; have HO1 := Lib.hid hown1; have HG1 := Lib.hid hg1; have HAT := Lib.hid hat1; clear hown1 hg1 hat1)
          have hob : OB w1 w.heap.size v1 ((cds (9 * m) v ++ cds i r) ++ [ch]) := OB.snoc (by rw [HLC.out]; exact HO1.out)
          obtain ⟨A1, c1, hv1⟩ := hob.form
          have hl1 : ((cds (9 * m) v ++ cds i r) ++ [ch]).length = 9 * m + (i + 1) := by rw [List.length_append, HLC.out]; rfl
          rw [hl1] at hv1
          have HV1 := Lib.hid hv1
          have HOB := Lib.hid hob
          clear hob hv1 hl1
          go_roundw
          case rel =>
            refine ⟨i + 1, A1, c1, by omega, by go_num, by rw [HX2.out], HV1.out, Lib.hid ?_, Lib.hid ⟨HG1.out.os.trans HFR.out.os, HG1.out.tape.trans HFR.out.tape, HG1.out.output.trans HFR.out.output, Nat.le_trans HFR.out.size (Nat.le_trans (by simp) HG1.out.size), fun k hk hs => ?_⟩, Lib.hid fun k hk => ?_⟩
            · rw [HCD.out, ← HV1.out]; exact HOB.out
            · refine (HG1.out.block k (by simp; omega) (fun e => ?_)).trans ((Below.heap_alloc wi _ k (by omega)).trans (HFR.out.block k hk hs))
              rcases HNB.out k e.symm with h | h
              · exact hs h
              · omega
            · rw [← HV1.out] at hk
              rcases HAT.out with h | h
              · rw [h] at hk; exact HNB.out k hk
              · rw [h] at hk
                have := Option.some.inj hk
                simp at this
                right; omega
          case measure => simp [intOf]; omega
        · obtain rfl : i = 9 := by omega
          have hown9 := HFR.out.size
          have HCA : Hid (cds (9 * m) v ++ cds 9 r = cds (9 * (m + 1)) v) := Lib.hid (by rw [cds_add, HR.out])
          go_wp2
          go_roundg (val lq2)
          case measure =>
            have h1 := HQ2.out
            have h2 := HVL.out
            omega
          case rel =>
            have hlt2 : ∀ k, DS w.heap.size vq2 vr2 vb2 k → k < w2.heap.size := HD2.out.lt
            have hnot : ∀ k, (Value.slice Ao (9 * m) co).ownBlock = some k → ¬ DS w.heap.size vq2 vr2 vb2 k := by
              intro k hk hd
              rcases HS2.out k hd with h | h
              · exact HDO.out k hk h
              · have := (HBO.out k hk).2; omega
            have hnew : ∀ k, (Value.slice A3 lq2.length c3).ownBlock = some k → w2.heap.size ≤ k ∧ k < w3.heap.size := HO3.out.block
            have hkeep : ∀ k, k < w3.heap.size → ¬ (Value.slice Ao (9 * m) co).ownBlock = some k → wi.heap[k]? = w3.heap[k]? := fun k hk hs => HFR.out.block k hk hs
            refine ⟨m + 1, vq2, vr2, vb2, _, lq2, lr2, lb2, A3, lq2.length, c3, lq2, rfl, rfl, Nat.le_refl _, Lib.hid ?_, hql, by omega, Lib.hid ⟨?_, ?_, HNQ.out, ?_, ?_, ?_, Nat.le_refl _, ?_⟩⟩
            · rw [HQ2.out, HV.out, Nat.div_div_eq_div_mul, show 9 * (m + 1) = 9 * m + 9 by omega, Nat.pow_add]
            · refine (HD2.out.keep (w' := w3) (fun k hk => HB3.out.block k (hlt2 k hk))).keep (fun k hk => ?_)
              exact hkeep k (Nat.lt_of_lt_of_le (hlt2 k hk) ow3) (fun e => hnot k e hk)
            · refine (HO3.out.keep (w' := wi) (fun k hk => hkeep k (hnew k hk).2 (fun e => ?_))).lim'
              have h1 := (HBO.out k e).2
              have h2 := (hnew k hk).1
              have h3 := HF2.out.size
              omega
            · intro hp ad e
              have h1 := hnew ad.block (own_some e)
              refine ⟨fun hd => by have := hlt2 _ hd; omega, fun e2 => ?_⟩
              rcases HNB.out _ e2 with h | h
              · have h2 := (HBO.out _ h).2
                have h3 := HF2.out.size
                omega
              · omega
            · rw [← HCA.out]
              exact HO.out
            · intro k hk hd
              rcases HNB.out k hk with h | h
              · exact hnot k h hd
              · have := hlt2 k hd
                omega
            · refine Fr.below_ HFR.out ?_ (fun k hk => (HBO.out k hk).1)
              refine below_to (Fr.below_ HF2.out HS.out.below (fun k hk => ?_)) HB3.out (Nat.le_trans hwo HF2.out.size)
              rcases hk with e | e | e | e
              · omega
              · exact (HS.out.d.q.block k e).1
              · exact (HS.out.d.r.block k e).1
              · exact (HS.out.d.b.block k e).1

end Go.Proofs.YtfnibkodccfocaaGreat

/- Texts, the program: Format. -/
namespace Go.Proofs.YtfnibkodccfocaaGreat
open Go Go.RowKit

/-- The parts of a fraction in normal form: its sign, its digits, whether it is whole. -/
theorem fmt_parts {w0 : World} {s1 s2 : Bool} {A1 A2 : Option Addr} {n1 c1 n2 c2 K : Nat} {x : Rat} (h : RatH w0 s1 A1 n1 c1 s2 A2 n2 c2 x K true) :
    ∃ l1 l2, (∀ w', Below w0.heap.size w0 w' → Lim w' w'.heap.size A1 n1 c1 l1) ∧ (∀ w', Below w0.heap.size w0 w' → Lim w' w'.heap.size A2 n2 c2 l2) ∧ Norm l1 ∧ Norm l2 ∧ val l1 = x.num.natAbs ∧ val l2 = x.den ∧ s1 = decide (x.num < 0) ∧ decide (l2 = [1]) = decide (x.den = 1) := by
  obtain ⟨l1, l2, g1, g2, -, hn⟩ := h.lim
  obtain ⟨N1, p1, N2, p2, e1, e2⟩ := hn rfl
  have hv1 : val l1 = x.num.natAbs := by rw [e1, sg_abs]
  have hv2 : val l2 = x.den := by
    have : (x.den : Int).natAbs = (sg s2 (val l2)).natAbs := by rw [e2]
    rw [sg_abs] at this
    omega
  refine ⟨l1, l2, g1, g2, N1, N2, hv1, hv2, ?_, ?_⟩
  · cases s1
    · have : ¬ x.num < 0 := by rw [e1]; simp [sg]
      rw [decide_eq_false this]
    · have h0 := p1 rfl
      have hlen := (g1 w0 (Below.refl _ _)).len
      have hpos : 0 < val l1 := by
        rcases Nat.eq_zero_or_pos (val l1) with h | h
        · have := norm_len_le (k := 0) N1 (by rw [h]; decide)
          omega
        · exact h
      have : x.num < 0 := by rw [e1]; simp [sg]; omega
      rw [decide_eq_true this]
  · refine decide_eq_decide.2 ⟨fun h => ?_, fun h => ?_⟩
    · rw [← hv2, h]; rfl
    · have h1 : val l2 = 1 := by rw [hv2, h]
      have hle := norm_len_le (k := 1) N2 (by rw [h1]; decide)
      match l2, h1, hle with
      | [], h1, _ => cases h1
      | [y], h1, _ =>
        have : y = 1 := by simpa [val] using h1
        rw [this]
/- The denominator: of the world %1, with the text S3 so far. -/
set_option maxRecDepth 100000 in
set_option maxHeartbeats 1600000 in
theorem format_any {s1 s2 : Bool} {A1 A2 : Option Addr} {n1 c1 n2 c2 K : Nat} {nf : Bool} {x : Rat} {w1 w : World} (h : RatH w1 s1 A1 n1 c1 s2 A2 n2 c2 x K nf) (b1 : Below w1.heap.size w1 w) (hk : K ≤ 80) :
    Calls Tryz.prog 46 #[.agg #[.bool s1, .slice A1 n1 c1, .bool s2, .slice A2 n2 c2]] w fun e w' => Below w.heap.size w w' ∧ e = .returned (.string (bs (fmtR x))) := by
  go_enter Tryz.func46, Tryz.ntmps46
  go_upto_region 1 with fail
  obtain ⟨W0, hW⟩ : ∃ W, W = (w.alloc (.cells #[.bool s1, .slice A1 n1 c1, .bool s2, .slice A2 n2 c2] 41)) := ⟨_, rfl⟩
  have HBW : Hid (Below w.heap.size w W0) := Lib.hid (by rw [hW]; exact (by repeat (first | with_reducible exact Below.refl _ _ | with_reducible assumption | with_reducible refine Below.drew ?_ | with_reducible refine Below.drewN ?_ _ | with_reducible refine Below.alloc2 ?_ _ | with_reducible refine Below.alloc ?_ (by first | omega | (simp <;> omega)) _ | with_reducible refine Below.setCell ?_ (by first | omega | (simp <;> omega)) _ | with_reducible refine Below.step2 (by with_reducible assumption) ?_ | with_reducible refine Below.step (by with_reducible assumption) ?_ (by first | omega | (simp <;> omega)))))
  have HKX : Hid (Bk W0 w.heap.size 41 #[.bool s1, .slice A1 n1 c1, .bool s2, .slice A2 n2 c2]) := Lib.hid (by rw [hW]; exact (by repeat (first | with_reducible assumption | with_reducible exact Bk.at_ (by first | (simp; done) | omega) | with_reducible refine Bk.alloc ?_ _ | with_reducible refine Bk.drew ?_ | with_reducible refine Bk.drewN ?_ _ | with_reducible refine Bk.step (by with_reducible assumption) ?_ (by first | omega | (simp <;> omega)))))
  rw [← hW]
  clear hW
  obtain ⟨a0, a1, a2, a3⟩ := HKX.out.four4
  go_upto_region 2 with (go_at_call 30; go_loud (with_reducible refine (normalH h (below_to b1 HBW.out b1.size) (by omega)).mono ?_; rintro e wn ⟨hbn, t1, B1, m1, d1, t2, B2, m2, d2, rfl, hr⟩; have HBN := Lib.hid (below_to HBW.out hbn HBW.out.size); have hkx := HKX.out.below hbn HKX.out.lt; have f0 := hkx.frozen 0; have f1 := hkx.frozen 1; have f2 := hkx.frozen 2; have f3 := hkx.frozen 3; obtain ⟨r0, r1, r2, r3⟩ := hkx.four4; have HKN := Lib.hid hkx; have HRN := Lib.hid hr; clear hbn hkx hr))
  obtain ⟨wa, hV, hVb, hVk, hVr, hVo, -⟩ := stored_over HBN.out (Nat.le_refl _) HKN.out HRN.out
  rw [← hV]
  clear hV hVo a0 a1 a2 a3 r0 r1 r2 r3 f0 f1 f2 f3 h b1 HBW HKX HBN HKN HRN
  obtain ⟨hnum, hden⟩ := hVr.bds (by omega)
  have hm1 : m1 ≤ 1000 := by have := hVr.len1; omega
  have hm2 : m2 ≤ 1000 := by have := hVr.len2; omega
  obtain ⟨l1, l2, hl1, hl2, hn1, hn2, hv1, hv2, ht1, h1⟩ := fmt_parts hVr
  have HL2 := Lib.hid hl2
  have HN2 := Lib.hid hn2
  have HV2 := Lib.hid hv2
  have H1 := Lib.hid h1
  have HBa := Lib.hid hVb
  have HXa := Lib.hid hVk
  have HAa : Hid (Below wa.heap.size wa wa) := Lib.hid (Below.refl _ _)
  obtain ⟨u0, u1, u2, u3⟩ := hVk.four4
  obtain ⟨S1, hS1⟩ : ∃ S1, bs (dec x.num.natAbs) = S1 := ⟨_, rfl⟩
  have HS1 := Lib.hid hS1
  have hz1 : S1.size ≤ 1000 := by rw [← hS1, bs_size]; exact dec_short (by omega) hnum
  have HD1 : Hid (Calls Tryz.prog 81 #[.slice B1 m1 d1] wa fun e w' => Below wa.heap.size wa w' ∧ e = .returned (.string S1)) := Lib.hid (by
    have := decimal_any (hl1 wa (Below.refl _ _)) hn1 hm1
    rwa [hv1, hS1] at this)
  clear hVb hVk hVr hl1 hl2 hn1 hn2 hv1 hv2 h1 hS1
  go_upto_region 3 with (go_at_call 81; go_loud (refine HD1.out.mono ?_; rintro e wc ⟨hbc, rfl⟩; have HBc := Lib.hid (below_to HBa.out hbc HBa.out.size); have HXc := Lib.hid (HXa.out.below hbc HXa.out.lt); have HAc := Lib.hid hbc; obtain ⟨u0, u1, u2, u3⟩ := HXc.out.four4; clear hbc))
  clear HBa HXa HAa HD1
  by_cases hx : x.num < 0
  · rw [decide_eq_true hx] at ht1
    subst ht1
    obtain ⟨S3, hS3'⟩ : ∃ S3, (⟨#[45]⟩ : ByteArray) ++ S1 = S3 := ⟨_, rfl⟩
    have hS3 : bs (sgT x ++ dec x.num.natAbs) = S3 := by
      rw [← bs_append, HS1.out, ← hS3']
      unfold sgT
      rw [if_pos hx]
      rfl
    have hz45 : (⟨#[45]⟩ : ByteArray).size = 1 := rfl
    have hz3 : S3.size ≤ 1001 := by rw [← hS3', ByteArray.size_append]; omega
    clear hx
    go_upto_region 5 with fail
    clear u0 u1 u2 u3
    obtain ⟨v0, v1, v2, v3⟩ := HXc.out.four4
    by_cases hd1 : x.den = 1
    · have HON : Hid (∀ W, Below wa.heap.size wa W → Calls Tryz.prog 82 #[.slice B2 m2 d2] W fun e w' => W = w' ∧ e = .returned (.bool true)) := Lib.hid fun W hW => by
        have := isOne_any B2 m2 d2 l2 W.heap.size W (HL2.out W hW)
        rwa [H1.out, decide_eq_true hd1] at this
      have hfm : bs (fmtR x) = S3 := by rw [fmt_one hd1]; exact hS3
      have HFM := Lib.hid hfm
      clear hfm hd1
      go_wp2_with (go_at_call 82; go_loud (refine (HON.out _ HAc.out).mono ?_; rintro e wj ⟨rfl, rfl⟩))
      go_ret
      exact ⟨HBc.out, by rw [HFM.out]; rfl⟩
    · have HON : Hid (∀ W, Below wa.heap.size wa W → Calls Tryz.prog 82 #[.slice B2 m2 d2] W fun e w' => W = w' ∧ e = .returned (.bool false)) := Lib.hid fun W hW => by
        have := isOne_any B2 m2 d2 l2 W.heap.size W (HL2.out W hW)
        rwa [H1.out, decide_eq_false hd1] at this
      obtain ⟨S2, hS2⟩ : ∃ S2, bs (dec x.den) = S2 := ⟨_, rfl⟩
      obtain ⟨S4, hS4⟩ : ∃ S4, S3 ++ (⟨#[47]⟩ : ByteArray) = S4 := ⟨_, rfl⟩
      obtain ⟨S5, hS5⟩ : ∃ S5, S4 ++ S2 = S5 := ⟨_, rfl⟩
      have hfm : bs (fmtR x) = S5 := by
        rw [fmt_more hd1, ← bs_append, ← bs_append, hS3, hS2, ← hS5, ← hS4]
        rfl
      have hz2 : S2.size ≤ 1000 := by rw [← hS2, bs_size]; exact dec_short (by omega) hden
      have hz4 : S4.size ≤ 1002 := by rw [← hS4, ByteArray.size_append]; have : (⟨#[47]⟩ : ByteArray).size = 1 := rfl; omega
      have hz47 : (⟨#[47]⟩ : ByteArray).size = 1 := rfl
      have HFM := Lib.hid hfm
      have HD2 : Hid (∀ W, Below wa.heap.size wa W → Calls Tryz.prog 81 #[.slice B2 m2 d2] W fun e w' => Below W.heap.size W w' ∧ e = .returned (.string S2)) := Lib.hid fun W hW => by
        have := decimal_any (HL2.out W hW) HN2.out hm2
        rwa [HV2.out, hS2] at this
      clear hfm hd1 hS2
      go_wp2_with (first
        | (go_at_call 82; (refine (HON.out _ HAc.out).mono ?_; rintro e wj ⟨rfl, rfl⟩))
        | (go_at_call 81; go_loud (refine (HD2.out _ HAc.out).mono ?_; rintro e wk ⟨hbk, rfl⟩; have HBk := Lib.hid (below_to HBc.out hbk HBc.out.size); clear hbk)))
      go_ret
      exact ⟨HBk.out, by rw [HFM.out]; rfl⟩
  · rw [decide_eq_false hx] at ht1
    subst ht1
    obtain ⟨S3, hS3'⟩ : ∃ S3, S1 = S3 := ⟨_, rfl⟩
    have hS3 : bs (sgT x ++ dec x.num.natAbs) = S3 := by
      unfold sgT
      rw [if_neg hx, List.nil_append, HS1.out, hS3']
    have hz3 : S3.size ≤ 1001 := by rw [← hS3']; omega
    rw [hS3']
    clear hx
    go_upto_region 5 with fail
    clear u0 u1 u2 u3
    obtain ⟨v0, v1, v2, v3⟩ := HXc.out.four4
    by_cases hd1 : x.den = 1
    · have HON : Hid (∀ W, Below wa.heap.size wa W → Calls Tryz.prog 82 #[.slice B2 m2 d2] W fun e w' => W = w' ∧ e = .returned (.bool true)) := Lib.hid fun W hW => by
        have := isOne_any B2 m2 d2 l2 W.heap.size W (HL2.out W hW)
        rwa [H1.out, decide_eq_true hd1] at this
      have hfm : bs (fmtR x) = S3 := by rw [fmt_one hd1]; exact hS3
      have HFM := Lib.hid hfm
      clear hfm hd1
      go_wp2_with (go_at_call 82; go_loud (refine (HON.out _ HAc.out).mono ?_; rintro e wj ⟨rfl, rfl⟩))
      go_ret
      exact ⟨HBc.out, by rw [HFM.out]; rfl⟩
    · have HON : Hid (∀ W, Below wa.heap.size wa W → Calls Tryz.prog 82 #[.slice B2 m2 d2] W fun e w' => W = w' ∧ e = .returned (.bool false)) := Lib.hid fun W hW => by
        have := isOne_any B2 m2 d2 l2 W.heap.size W (HL2.out W hW)
        rwa [H1.out, decide_eq_false hd1] at this
      obtain ⟨S2, hS2⟩ : ∃ S2, bs (dec x.den) = S2 := ⟨_, rfl⟩
      obtain ⟨S4, hS4⟩ : ∃ S4, S3 ++ (⟨#[47]⟩ : ByteArray) = S4 := ⟨_, rfl⟩
      obtain ⟨S5, hS5⟩ : ∃ S5, S4 ++ S2 = S5 := ⟨_, rfl⟩
      have hfm : bs (fmtR x) = S5 := by
        rw [fmt_more hd1, ← bs_append, ← bs_append, hS3, hS2, ← hS5, ← hS4]
        rfl
      have hz2 : S2.size ≤ 1000 := by rw [← hS2, bs_size]; exact dec_short (by omega) hden
      have hz4 : S4.size ≤ 1002 := by rw [← hS4, ByteArray.size_append]; have : (⟨#[47]⟩ : ByteArray).size = 1 := rfl; omega
      have hz47 : (⟨#[47]⟩ : ByteArray).size = 1 := rfl
      have HFM := Lib.hid hfm
      have HD2 : Hid (∀ W, Below wa.heap.size wa W → Calls Tryz.prog 81 #[.slice B2 m2 d2] W fun e w' => Below W.heap.size W w' ∧ e = .returned (.string S2)) := Lib.hid fun W hW => by
        have := decimal_any (HL2.out W hW) HN2.out hm2
        rwa [HV2.out, hS2] at this
      clear hfm hd1 hS2
      go_wp2_with (first
        | (go_at_call 82; (refine (HON.out _ HAc.out).mono ?_; rintro e wj ⟨rfl, rfl⟩))
        | (go_at_call 81; go_loud (refine (HD2.out _ HAc.out).mono ?_; rintro e wk ⟨hbk, rfl⟩; have HBk := Lib.hid (below_to HBc.out hbk HBc.out.size); clear hbk)))
      go_ret
      exact ⟨HBk.out, by rw [HFM.out]; rfl⟩

end Go.Proofs.YtfnibkodccfocaaGreat

/- Texts, the program: Parse. -/
namespace Go.Proofs.YtfnibkodccfocaaGreat
open Go Go.RowKit

theorem offN_codes {l : List Nat} (h : Codes l) : Codes (offN l) ∧ (offN l).length ≤ l.length := by
  unfold offN
  split
  · exact ⟨fun c hc => h c (List.mem_of_mem_tail hc), by rw [List.length_tail]; omega⟩
  · exact ⟨h, Nat.le_refl _⟩
theorem natP_29 {l : List Nat} (h : l.length ≤ 100) : natP l < W 29 := by
  refine Nat.lt_of_lt_of_le (natP_lt l) (Nat.le_trans (Nat.pow_le_pow_right (by omega) h) ?_)
  decide +kernel
theorem sg_and (b : Bool) {n : Nat} {l : List Nat} (h : l.length = n) : sg (b && decide (0 < n)) (val l) = sg b (val l) := by
  rcases Nat.eq_zero_or_pos n with hz | hp
  · have : l = [] := List.eq_nil_of_length_eq_zero (by omega)
    subst this
    have hv : val ([] : List Nat) = 0 := rfl
    rw [hv]
    cases b <;> simp [sg]
  · rw [decide_eq_true hp, Bool.and_true]
set_option maxRecDepth 100000 in
set_option maxHeartbeats 800000 in
theorem parse_large {l : List Nat} (hn : 800 < l.length) (w : World) : Calls Tryz.prog 44 #[.string (bs l)] w fun e w' => Below w.heap.size w w' ∧ e = .returned (.tuple #[.agg #[.bool false, .slice none 0 0, .bool false, .slice none 0 0], .int .i64 8]) := by
  have hs := bs_size l
  have e1 : decide (((bs l).size : Int) > 800) = true := decide_eq_true (by omega)
  generalize bs l = S at *
  go_enter Tryz.func44, Tryz.ntmps44
  go_wp2
  refine bodyPost_ret (v := .tuple #[.agg #[.bool false, .slice none 0 0, .bool false, .slice none 0 0], .int .i64 8]) (by simp [results, Tryz.results44, go_sem]) rfl ?_
  exact ⟨(by repeat (first | with_reducible exact Below.refl _ _ | with_reducible assumption | with_reducible refine Below.drew ?_ | with_reducible refine Below.drewN ?_ _ | with_reducible refine Below.alloc2 ?_ _ | with_reducible refine Below.alloc ?_ (by first | omega | (simp <;> omega)) _ | with_reducible refine Below.setCell ?_ (by first | omega | (simp <;> omega)) _ | with_reducible refine Below.step2 (by with_reducible assumption) ?_ | with_reducible refine Below.step (by with_reducible assumption) ?_ (by first | omega | (simp <;> omega)))), rfl⟩
set_option maxRecDepth 100000 in
set_option maxHeartbeats 1600000 in
theorem parse_any {l : List Nat} (hl : Codes l) (hn : l.length ≤ 100) (w : World) : Calls Tryz.prog 44 #[.string (bs l)] w (ParR l (parP l) 30 w) := by
  have hs := bs_size l
  have hsz : ((bs l).size : Int) = ((l.length : Nat) : Int) := by rw [hs]
  have HEQ : Hid (∀ b, Codes b → ((bs b).toList == (bs l).toList) = decide (b = l)) := Lib.hid fun b hb => beq_bs hb hl
  obtain ⟨hoc, hol⟩ := offN_codes hl
  obtain ⟨htc, hbc, htl, hbl⟩ := top_codes hoc
  obtain ⟨SO, hSO⟩ : ∃ SO, bs (offN l) = SO := ⟨_, rfl⟩
  obtain ⟨ST, hST⟩ : ∃ ST, bs (top (offN l)) = ST := ⟨_, rfl⟩
  obtain ⟨SB, hSB⟩ : ∃ SB, bs (bot (offN l)) = SB := ⟨_, rfl⟩
  obtain ⟨ng, hng⟩ : ∃ ng, ngB l = ng := ⟨_, rfl⟩
  obtain ⟨fd, hfd⟩ : ∃ fd, decide (47 ∈ offN l) = fd := ⟨_, rfl⟩
  have HP1 : Hid (∀ W, Calls Tryz.prog 77 #[.string (bs l), .string ⟨#[45]⟩] W fun e w' => W = w' ∧ e = .returned (.tuple #[.string SO, .bool ng])) := Lib.hid fun W => by
    have := prefix_any hl W
    rwa [hSO, hng] at this
  have HP2 : Hid (∀ W, Calls Tryz.prog 78 #[.string SO, .string ⟨#[47]⟩] W fun e w' => Below W.heap.size W w' ∧ e = .returned (.tuple #[.string ST, .string SB, .bool fd])) := Lib.hid fun W => by
    have := cut_any hoc (by omega) W
    rwa [hSO, hST, hSB, hfd] at this
  have HN1 : Hid (∀ W, Calls Tryz.prog 79 #[.string ST] W (NatR (natP (top (offN l))) W)) := Lib.hid fun W => by
    have := natural_any htc (by omega) W
    rwa [hST] at this
  have HN2 : Hid (∀ W, Calls Tryz.prog 79 #[.string SB] W (NatR (natP (bot (offN l))) W)) := Lib.hid fun W => by
    have := natural_any hbc (by omega) W
    rwa [hSB] at this
  have HW1 := Lib.hid (natP_29 (l := top (offN l)) (by omega))
  have HW2 := Lib.hid (natP_29 (l := bot (offN l)) (by omega))
  have HPAR : Hid (parP l = frac (sg ng (natP (top (offN l)))) (natP (bot (offN l)))) := Lib.hid (by unfold parP; rw [hng])
  obtain ⟨S, hS⟩ : ∃ S, bs l = S := ⟨_, rfl⟩
  rw [hS] at HEQ HP1 hsz hs ⊢
  have e1 : decide (((l.length : Nat) : Int) > 800) = false := decide_eq_false (by omega)
  clear hS hl hoc hol htc hbc htl hbl hSO hST hSB hng hfd
  go_enter Tryz.func44, Tryz.ntmps44
  go_upto_region 3 with fail
  obtain ⟨T, hT⟩ : ∃ T, T = (w.alloc (.cells #[.bool false, .slice none 0 0, .bool false, .slice none 0 0] 41)) := ⟨_, rfl⟩
  have HBT : Hid (Below w.heap.size w T) := Lib.hid (by rw [hT]; exact (by repeat (first | with_reducible exact Below.refl _ _ | with_reducible assumption | with_reducible refine Below.drew ?_ | with_reducible refine Below.drewN ?_ _ | with_reducible refine Below.alloc2 ?_ _ | with_reducible refine Below.alloc ?_ (by first | omega | (simp <;> omega)) _ | with_reducible refine Below.setCell ?_ (by first | omega | (simp <;> omega)) _ | with_reducible refine Below.step2 (by with_reducible assumption) ?_ | with_reducible refine Below.step (by with_reducible assumption) ?_ (by first | omega | (simp <;> omega)))))
  have H2T : Hid (Bk T w.heap.size 41 #[.bool false, .slice none 0 0, .bool false, .slice none 0 0]) := Lib.hid (by rw [hT]; exact (by repeat (first | with_reducible assumption | with_reducible exact Bk.at_ (by first | (simp; done) | omega) | with_reducible refine Bk.alloc ?_ _ | with_reducible refine Bk.drew ?_ | with_reducible refine Bk.drewN ?_ _ | with_reducible refine Bk.step (by with_reducible assumption) ?_ (by first | omega | (simp <;> omega)))))
  rw [← hT]
  clear hT e1
  go_upto_region 5 with (first
    | (go_at_call 77; (with_reducible refine (HP1.out _).mono ?_); rintro e w1 ⟨rfl, rfl⟩)
    | (go_at_call 78; (with_reducible refine (HP2.out _).mono ?_); rintro e wa ⟨hba, rfl⟩; have HBa := Lib.hid (below_to HBT.out hba HBT.out.size); have H2a := Lib.hid (H2T.out.below hba H2T.out.lt); clear hba))
  go_upto_region 6 with (first
    | (go_at_call 30; go_loud (with_reducible refine (normalH HR.out (Below.refl _ _) (by omega)).mono ?_; rintro e wg ⟨hbg, t1, B1, m1, d1, t2, B2, m2, d2, rfl, hr⟩; have HBg := Lib.hid (below_to HBf.out hbg HBf.out.size); have H2g := Lib.hid (H2f.out.below hbg H2f.out.lt); have HRg := Lib.hid hr; clear hbg hr))
    | (go_at_call 56; (with_reducible refine (signed_any false A2 n2 c2 wd).mono ?_); rintro e wf ⟨rfl, hbf⟩; have HBf := Lib.hid (below_to HBd.out hbf HBd.out.size); have H2f := Lib.hid (H2d.out.below hbf H2d.out.lt); have HR : Hid (RatH wf s1 A1 n1 c1 false A2 n2 c2 (parP l) 29 false) := Lib.hid ⟨⟨ls1, ls2, fun w' hb => HL1d.out w' (below_to hbf hb hbf.size), fun w' hb => HL2.out w' (below_to hbf hb hbf.size), by rw [HPAR.out, HS1.out, HV2.out]; simp [sg], fun h => by cases h⟩, hn1, hn2⟩; clear hbf)
    | (go_at_call 79; (with_reducible refine (HN2.out _).mono ?_); rintro e wd ⟨hbd, A2, n2, c2, ls2, rfl, hl2, no2, hv2⟩; have HS := HSc; have HBd := Lib.hid (below_to HBc.out hbd HBc.out.size); have H2d := Lib.hid (H2c.out.below hbd H2c.out.lt); have HL2 : Hid (∀ w', Below wd.heap.size wd w' → Lim w' w'.heap.size A2 n2 c2 ls2) := Lib.hid fun w' hb => hl2.below hb (Nat.le_refl _) hb.size; have HL1d : Hid (∀ w', Below wd.heap.size wd w' → Lim w' w'.heap.size A1 n1 c1 ls1) := Lib.hid fun w' hb => HL1c.out w' (below_to hbd hb hbd.size); have hn2 : n2 ≤ 29 := (by rw [← hl2.len]; exact norm_len_le no2 (by rw [hv2]; exact HW2.out)); have HV2 := Lib.hid hv2; clear hbd hl2 no2 hv2)
    | (go_at_call 56; (with_reducible refine (signed_any ng A1 n1 c1 wb).mono ?_); rintro e wc ⟨rfl, hbc⟩; have HBc := Lib.hid (below_to HBb.out hbc HBb.out.size); have H2c := Lib.hid (H2b.out.below hbc H2b.out.lt); have HL1c : Hid (∀ w', Below wc.heap.size wc w' → Lim w' w'.heap.size A1 n1 c1 ls1) := Lib.hid fun w' hb => HL1.out w' (below_to hbc hb hbc.size); have HS1' : Hid (sg (ng && decide (0 < n1)) (val ls1) = sg ng (natP (top (offN l)))) := Lib.hid (by rw [sg_and ng HLEN.out, HV1.out]); obtain ⟨s1, hs1⟩ : ∃ s1, (ng && decide (0 < n1)) = s1 := ⟨_, rfl⟩; rw [hs1] at HS1'; rw [hs1]; have HS1 := HS1'; have HSc := HS1'; clear hbc hs1)
    | (go_at_call 79; (with_reducible refine (HN1.out _).mono ?_); rintro e wb ⟨hbb, A1, n1, c1, ls1, rfl, hl1, no1, hv1⟩; have HBb := Lib.hid (below_to HBa.out hbb HBa.out.size); have H2b := Lib.hid (H2a.out.below hbb H2a.out.lt); have HL1 : Hid (∀ w', Below wb.heap.size wb w' → Lim w' w'.heap.size A1 n1 c1 ls1) := Lib.hid fun w' hb => hl1.below hb (Nat.le_refl _) hb.size; have hn1 : n1 ≤ 29 := (by rw [← hl1.len]; exact norm_len_le no1 (by rw [hv1]; exact HW1.out)); have HLEN := Lib.hid hl1.len; have HV1 := Lib.hid hv1; clear hbb hl1 no1 hv1))
  obtain ⟨Z, hZ⟩ : ∃ Z, Z = (wg.alloc (.cells #[.bool t1, .slice B1 m1 d1, .bool t2, .slice B2 m2 d2] 41)) := ⟨_, rfl⟩
  have hbZ : Below wg.heap.size wg Z := by rw [hZ]; exact (by repeat (first | with_reducible exact Below.refl _ _ | with_reducible assumption | with_reducible refine Below.drew ?_ | with_reducible refine Below.drewN ?_ _ | with_reducible refine Below.alloc2 ?_ _ | with_reducible refine Below.alloc ?_ (by first | omega | (simp <;> omega)) _ | with_reducible refine Below.setCell ?_ (by first | omega | (simp <;> omega)) _ | with_reducible refine Below.step2 (by with_reducible assumption) ?_ | with_reducible refine Below.step (by with_reducible assumption) ?_ (by first | omega | (simp <;> omega))))
  have H6Z : Hid (Bk Z wg.heap.size 41 #[.bool t1, .slice B1 m1 d1, .bool t2, .slice B2 m2 d2]) := Lib.hid (by rw [hZ]; exact (by repeat (first | with_reducible assumption | with_reducible exact Bk.at_ (by first | (simp; done) | omega) | with_reducible refine Bk.alloc ?_ _ | with_reducible refine Bk.drew ?_ | with_reducible refine Bk.drewN ?_ _ | with_reducible refine Bk.step (by with_reducible assumption) ?_ (by first | omega | (simp <;> omega)))))
  rw [← hZ]
  have HBZ := Lib.hid (below_to HBg.out hbZ HBg.out.size); have H2Z := Lib.hid (H2g.out.below hbZ H2g.out.lt)
  have HRZ := Lib.hid (HRg.out.later hbZ)
  clear hZ hbZ HBT H2T HBa H2a HBb H2b HBc H2c HBd H2d HBf H2f HBg H2g HRg HR HP1 HP2 HN1 HN2 HW1 HW2 HPAR HL1 HL1c HL1d HL2 HLEN HV1 HV2 HS HSc HS1 HS1' hn1 hn2
  obtain ⟨SF, hSF⟩ : ∃ SF, bs (fmtR (parP l)) = SF := ⟨_, rfl⟩
  have heq := HEQ.out _ (fmt_codes (parP l))
  rw [hSF] at heq
  have HFM : Hid (∀ W, Below Z.heap.size Z W → Calls Tryz.prog 46 #[.agg #[.bool t1, .slice B1 m1 d1, .bool t2, .slice B2 m2 d2]] W fun e w' => Below W.heap.size W w' ∧ e = .returned (.string SF)) := Lib.hid fun W hW => by
    have := format_any HRZ.out hW (by omega)
    rwa [hSF] at this
  clear hSF
  obtain ⟨x0, x1, x2, x3⟩ := H6Z.out.four4
  by_cases hfm : fmtR (parP l) = l
  · rw [decide_eq_true hfm] at heq
    go_wp2_with (go_at_call 46; go_loud ((with_reducible refine (HFM.out _ (Below.refl _ _)).mono ?_); rintro e wy ⟨hby, rfl⟩; have HBy := Lib.hid (below_to HBZ.out hby HBZ.out.size); have H2y := Lib.hid (H2Z.out.below hby H2Z.out.lt); have h6y := H6Z.out.below hby H6Z.out.lt; obtain ⟨y0, y1, y2, y3⟩ := h6y.four4; have HRy := Lib.hid (HRZ.out.later hby); have f0 := H2y.out.frozen 0; have f1 := H2y.out.frozen 1; have f2 := H2y.out.frozen 2; have f3 := H2y.out.frozen 3; obtain ⟨r0, r1, r2, r3⟩ := H2y.out.four4; clear hby h6y))
    obtain ⟨Y, hY, hYb, hYk, hYr, -, -⟩ := stored_over HBy.out (Nat.le_refl _) H2y.out HRy.out
    rw [← hY]
    obtain ⟨q0, q1, q2, q3⟩ := hYk.four4
    refine bodyPost_ret (v := .tuple #[.agg #[.bool t1, .slice B1 m1 d1, .bool t2, .slice B2 m2 d2], .int .i64 0]) (by simp [results, Tryz.results44, go_sem, q0, q1, q2, q3]) rfl ?_
    exact ⟨hYb, .inl ⟨hfm, t1, B1, m1, d1, t2, B2, m2, d2, rfl, hYr⟩⟩
  · rw [decide_eq_false hfm] at heq
    go_wp2_with (go_at_call 46; go_loud ((with_reducible refine (HFM.out _ (Below.refl _ _)).mono ?_); rintro e wy ⟨hby, rfl⟩; have HBy := Lib.hid (below_to HBZ.out hby HBZ.out.size); have H2y := Lib.hid (H2Z.out.below hby H2Z.out.lt); have f0 := H2y.out.frozen 0; have f1 := H2y.out.frozen 1; have f2 := H2y.out.frozen 2; have f3 := H2y.out.frozen 3; obtain ⟨r0, r1, r2, r3⟩ := H2y.out.four4; clear hby))
    obtain ⟨q0, q1, q2, q3⟩ := (H2y.out.four_set (.bool false) (.slice none 0 0) (.bool false) (.slice none 0 0)).four4
    refine bodyPost_ret (v := .tuple #[.agg #[.bool false, .slice none 0 0, .bool false, .slice none 0 0], .int .i64 7]) (by simp [results, Tryz.results44, go_sem, q0, q1, q2, q3]) rfl ?_
    exact ⟨(((HBy.out.setCell (Nat.le_refl _) _).setCell (Nat.le_refl _) _).setCell (Nat.le_refl _) _).setCell (Nat.le_refl _) _, .inr ⟨hfm, rfl⟩⟩

end Go.Proofs.YtfnibkodccfocaaGreat

/- The walk of ExactTexts. -/
namespace Go.Proofs.YtfnibkodccfocaaGreat
open Go Go.RowKit

theorem ret_boolT {b c : Bool} (h : b = c) : Ending.returned (.bool b) = Ending.returned (.bool c) := by rw [h]
set_option maxRecDepth 100000 in
set_option maxHeartbeats 4000000 in
theorem brief1_any (s1 s2 : Bool) (A1 A2 : Option Addr) (n1 c1 n2 c2 g : Nat) (w : World) (h : Bk w g 41 #[.bool s1, .slice A1 n1 c1, .bool s2, .slice A2 n2 c2]) :
    Calls Tryz.prog 24 #[.slice (some ⟨g, 0, none⟩) 1 1] w fun e w' => w = w' ∧ e = .returned (.bool (decide (n1 ≤ 3) && decide (n2 ≤ 3))) := by
  have og := h.lt
  have e1 : w.cell? ⟨g, 1, none⟩ = some (.slice A1 n1 c1) := by simpa using h.cell 1
  have e2 : w.cell? ⟨g, 3, none⟩ = some (.slice A2 n2 c2) := by simpa using h.cell 3
  clear h
  by_cases q1 : n1 ≤ 3
  · have r1 : ¬ (3 : Int) < (n1 : Int) := by omega
    by_cases q2 : n2 ≤ 3
    · have r2 : ¬ (3 : Int) < (n2 : Int) := by omega
      (
          go_enter Tryz.func24, Tryz.ntmps24
          go_wp2
          refine wp_loop_rounds 2 ?_
          rw [rounds_succ]
          go_wp2
          all_goals (try (rw [rounds_succ]; go_wp2))
          go_ret
          exact ⟨rfl, ret_boolT (by simp [*] <;> omega)⟩)
    · have r2 : (3 : Int) < (n2 : Int) := by omega
      (
          go_enter Tryz.func24, Tryz.ntmps24
          go_wp2
          refine wp_loop_rounds 2 ?_
          rw [rounds_succ]
          go_wp2
          all_goals (try (rw [rounds_succ]; go_wp2))
          go_ret
          exact ⟨rfl, ret_boolT (by simp [*] <;> omega)⟩)
  · have r1 : (3 : Int) < (n1 : Int) := by omega
    (
        go_enter Tryz.func24, Tryz.ntmps24
        go_wp2
        refine wp_loop_rounds 2 ?_
        rw [rounds_succ]
        go_wp2
        all_goals (try (rw [rounds_succ]; go_wp2))
        go_ret
        exact ⟨rfl, ret_boolT (by simp [*] <;> omega)⟩)
/-- What Parse gives on both sides: a fraction, or nothing. -/
def GG (P : Prop) (r : Rat) (K : Nat) (w' : World) (s1 : Bool) (A1 : Option Addr) (n1 c1 : Nat) (s2 : Bool) (A2 : Option Addr) (n2 c2 : Nat) : Prop :=
  (P ∧ RatH w' s1 A1 n1 c1 s2 A2 n2 c2 r K true) ∨ ((s1 = false ∧ A1 = none ∧ n1 = 0 ∧ c1 = 0) ∧ (s2 = false ∧ A2 = none ∧ n2 = 0 ∧ c2 = 0) ∧ ¬ P)
/-- Same of two fractions that are made of nothing. -/
theorem sameNil (w : World) : Calls Tryz.prog 27 #[.agg #[.bool false, .slice none 0 0, .bool false, .slice none 0 0], .agg #[.bool false, .slice none 0 0, .bool false, .slice none 0 0]] w fun e w' => Below w.heap.size w w' ∧ e = .returned (.bool true) := by
  go_enter Tryz.func27, Tryz.ntmps27
  go_wp2_with (first
    | (go_at_call 11; with_reducible refine (sameH (IntH.nil_ w) (IntH.nil_ w) ?_ ?_ rfl).mono ?_; (focus (exact (by repeat (first | with_reducible exact Below.refl _ _ | with_reducible assumption | with_reducible refine Below.drew ?_ | with_reducible refine Below.drewN ?_ _ | with_reducible refine Below.alloc2 ?_ _ | with_reducible refine Below.alloc ?_ (by first | omega | (simp <;> omega)) _ | with_reducible refine Below.setCell ?_ (by first | omega | (simp <;> omega)) _ | with_reducible refine Below.step2 (by with_reducible assumption) ?_ | with_reducible refine Below.step (by with_reducible assumption) ?_ (by first | omega | (simp <;> omega)))))); (focus (exact (by repeat (first | with_reducible exact Below.refl _ _ | with_reducible assumption | with_reducible refine Below.drew ?_ | with_reducible refine Below.drewN ?_ _ | with_reducible refine Below.alloc2 ?_ _ | with_reducible refine Below.alloc ?_ (by first | omega | (simp <;> omega)) _ | with_reducible refine Below.setCell ?_ (by first | omega | (simp <;> omega)) _ | with_reducible refine Below.step2 (by with_reducible assumption) ?_ | with_reducible refine Below.step (by with_reducible assumption) ?_ (by first | omega | (simp <;> omega)))))); rintro e wn ⟨hbn, rfl⟩; have kx : Bk wn w.heap.size 41 #[.bool false, .slice none 0 0, .bool false, .slice none 0 0] := (by repeat (first | with_reducible assumption | with_reducible exact Bk.at_ (by first | (simp; done) | omega) | with_reducible refine Bk.alloc ?_ _ | with_reducible refine Bk.drew ?_ | with_reducible refine Bk.drewN ?_ _ | with_reducible refine Bk.step (by with_reducible assumption) ?_ (by first | omega | (simp <;> omega)))); have ky : Bk wn (w.heap.size + 1) 41 #[.bool false, .slice none 0 0, .bool false, .slice none 0 0] := (by repeat (first | with_reducible assumption | with_reducible exact Bk.at_ (by first | (simp; done) | omega) | with_reducible refine Bk.alloc ?_ _ | with_reducible refine Bk.drew ?_ | with_reducible refine Bk.drewN ?_ _ | with_reducible refine Bk.step (by with_reducible assumption) ?_ (by first | omega | (simp <;> omega)))); obtain ⟨⟨x0, x1, x2, x3⟩, -⟩ := kx.quad; obtain ⟨⟨y0, y1, y2, y3⟩, -⟩ := ky.quad; have ozn := hbn.size; (try simp at ozn); have ox := kx.lt; have oy := ky.lt)
    | (go_at_call 11; with_reducible refine (sameH (IntH.nil_ w) (IntH.nil_ w) ?_ ?_ rfl).mono ?_; (focus (exact (by repeat (first | with_reducible exact Below.refl _ _ | with_reducible assumption | with_reducible refine Below.drew ?_ | with_reducible refine Below.drewN ?_ _ | with_reducible refine Below.alloc2 ?_ _ | with_reducible refine Below.alloc ?_ (by first | omega | (simp <;> omega)) _ | with_reducible refine Below.setCell ?_ (by first | omega | (simp <;> omega)) _ | with_reducible refine Below.step2 (by with_reducible assumption) ?_ | with_reducible refine Below.step (by with_reducible assumption) ?_ (by first | omega | (simp <;> omega)))))); (focus (exact (by repeat (first | with_reducible exact Below.refl _ _ | with_reducible assumption | with_reducible refine Below.drew ?_ | with_reducible refine Below.drewN ?_ _ | with_reducible refine Below.alloc2 ?_ _ | with_reducible refine Below.alloc ?_ (by first | omega | (simp <;> omega)) _ | with_reducible refine Below.setCell ?_ (by first | omega | (simp <;> omega)) _ | with_reducible refine Below.step2 (by with_reducible assumption) ?_ | with_reducible refine Below.step (by with_reducible assumption) ?_ (by first | omega | (simp <;> omega)))))); rintro e wm ⟨hbm, rfl⟩))
  go_ret
  exact ⟨(by repeat (first | with_reducible exact Below.refl _ _ | with_reducible assumption | with_reducible refine Below.drew ?_ | with_reducible refine Below.drewN ?_ _ | with_reducible refine Below.alloc2 ?_ _ | with_reducible refine Below.alloc ?_ (by first | omega | (simp <;> omega)) _ | with_reducible refine Below.setCell ?_ (by first | omega | (simp <;> omega)) _ | with_reducible refine Below.step2 (by with_reducible assumption) ?_ | with_reducible refine Below.step (by with_reducible assumption) ?_ (by first | omega | (simp <;> omega)))), rfl⟩
theorem same_gg {P : Prop} {r : Rat} {K1 K2 : Nat} {w1 w2 w : World} {s1 s2 s3 s4 : Bool} {A1 A2 A3 A4 : Option Addr} {n1 c1 n2 c2 n3 c3 n4 c4 : Nat} (h1 : GG P r K1 w1 s1 A1 n1 c1 s2 A2 n2 c2) (h2 : GG P r K2 w2 s3 A3 n3 c3 s4 A4 n4 c4) (b1 : Below w1.heap.size w1 w) (b2 : Below w2.heap.size w2 w) :
    Calls Tryz.prog 27 #[.agg #[.bool s1, .slice A1 n1 c1, .bool s2, .slice A2 n2 c2], .agg #[.bool s3, .slice A3 n3 c3, .bool s4, .slice A4 n4 c4]] w fun e w' => Below w.heap.size w w' ∧ e = .returned (.bool true) := by
  rcases h1 with ⟨p1, h1⟩ | ⟨⟨rfl, rfl, rfl, rfl⟩, ⟨rfl, rfl, rfl, rfl⟩, np⟩
  · rcases h2 with ⟨-, h2⟩ | ⟨-, -, np⟩
    · exact sameRH h1 h2 b1 b2 rfl
    · exact absurd p1 np
  · rcases h2 with ⟨p, -⟩ | ⟨⟨rfl, rfl, rfl, rfl⟩, ⟨rfl, rfl, rfl, rfl⟩, -⟩
    · exact absurd p np
    · exact sameNil w
theorem parse_both {l : List Nat} (hl : Codes l) (h : l.length ≤ 100 ∨ 800 < l.length) : ∃ (F : Int) (P : Prop) (r : Rat), (∀ W, Calls Tryz.prog 44 #[.string (bs l)] W fun e w' => Below W.heap.size W w' ∧ ∃ s1 A1 n1 c1 s2 A2 n2 c2, e = .returned (.tuple #[.agg #[.bool s1, .slice A1 n1 c1, .bool s2, .slice A2 n2 c2], .int .i64 F]) ∧ GG P r 30 w' s1 A1 n1 c1 s2 A2 n2 c2) ∧ (∀ W, Calls Tryz.prog 45 #[.string (bs l)] W fun e w' => Below W.heap.size W w' ∧ ∃ s1 A1 n1 c1 s2 A2 n2 c2, e = .returned (.tuple #[.agg #[.bool s1, .slice A1 n1 c1, .bool s2, .slice A2 n2 c2], .int .i64 F]) ∧ GG P r 13 w' s1 A1 n1 c1 s2 A2 n2 c2) := by
  rcases h with h | h
  · by_cases hp : fmtR (parP l) = l
    · have hp2 := par_same.1.1 hp
      have hpr := par_same.2 hp
      refine ⟨0, True, parP l, fun W => (parse_any hl h W).mono ?_, fun W => (refParse_any hl h W).mono ?_⟩
      · rintro e w' ⟨hb, ⟨-, s1, A1, n1, c1, s2, A2, n2, c2, rfl, hr⟩ | ⟨hn, -⟩⟩
        · exact ⟨hb, s1, A1, n1, c1, s2, A2, n2, c2, rfl, .inl ⟨trivial, hr⟩⟩
        · exact absurd hp hn
      · rintro e w' ⟨hb, ⟨-, s1, A1, n1, c1, s2, A2, n2, c2, rfl, hr⟩ | ⟨hn, -⟩⟩
        · exact ⟨hb, s1, A1, n1, c1, s2, A2, n2, c2, rfl, .inl ⟨trivial, by rw [hpr]; exact hr⟩⟩
        · exact absurd hp2 hn
    · have hp2 : ¬ fmtR (parR l) = l := fun h => hp (par_same.1.2 h)
      refine ⟨7, False, 0, fun W => (parse_any hl h W).mono ?_, fun W => (refParse_any hl h W).mono ?_⟩
      · rintro e w' ⟨hb, ⟨hn, -⟩ | ⟨-, rfl⟩⟩
        · exact absurd hn hp
        · exact ⟨hb, false, none, 0, 0, false, none, 0, 0, rfl, .inr ⟨⟨rfl, rfl, rfl, rfl⟩, ⟨rfl, rfl, rfl, rfl⟩, fun h => h⟩⟩
      · rintro e w' ⟨hb, ⟨hn, -⟩ | ⟨-, rfl⟩⟩
        · exact absurd hn hp2
        · exact ⟨hb, false, none, 0, 0, false, none, 0, 0, rfl, .inr ⟨⟨rfl, rfl, rfl, rfl⟩, ⟨rfl, rfl, rfl, rfl⟩, fun h => h⟩⟩
  · refine ⟨8, False, 0, fun W => (parse_large h W).mono ?_, fun W => (refParse_large h W).mono ?_⟩
    · rintro e w' ⟨hb, rfl⟩
      exact ⟨hb, false, none, 0, 0, false, none, 0, 0, rfl, .inr ⟨⟨rfl, rfl, rfl, rfl⟩, ⟨rfl, rfl, rfl, rfl⟩, fun h => h⟩⟩
    · rintro e w' ⟨hb, rfl⟩
      exact ⟨hb, false, none, 0, 0, false, none, 0, 0, rfl, .inr ⟨⟨rfl, rfl, rfl, rfl⟩, ⟨rfl, rfl, rfl, rfl⟩, fun h => h⟩⟩
/-- What is written is read again. -/
theorem parse_fmt {x : Rat} (h1 : x.num.natAbs < W 3) (h2 : x.den < W 3) (w : World) : Calls Tryz.prog 44 #[.string (bs (fmtR x))] w fun e w' => Below w.heap.size w w' ∧ ∃ s1 A1 n1 c1 s2 A2 n2 c2, e = .returned (.tuple #[.agg #[.bool s1, .slice A1 n1 c1, .bool s2, .slice A2 n2 c2], .int .i64 0]) ∧ RatH w' s1 A1 n1 c1 s2 A2 n2 c2 x 30 true := by
  have hk : W 3 ≤ 10 ^ 29 := by decide
  have hlen := fmt_len (k := 29) (r := x) (by omega) (by omega) (by omega)
  refine (parse_any (fmt_codes x) (by omega) w).mono ?_
  rintro e w' ⟨hb, ⟨-, s1, A1, n1, c1, s2, A2, n2, c2, rfl, hr⟩ | ⟨hn, -⟩⟩
  · rw [parP_fmt] at hr
    exact ⟨hb, s1, A1, n1, c1, s2, A2, n2, c2, rfl, hr⟩
  · exact absurd (by rw [parP_fmt]) hn

end Go.Proofs.YtfnibkodccfocaaGreat

/- The walk of ExactTexts: the law. -/
namespace Go.Proofs.YtfnibkodccfocaaGreat
open Go Go.RowKit

set_option maxRecDepth 100000 in
set_option maxHeartbeats 1600000 in
theorem lawTexts_any (sx tx : Bool) (X P : Option Addr) (nx cx mx dx : Nat) (lx px l : List Nat) (w : World) (hx : Lim w w.heap.size X nx cx lx) (hp : Lim w w.heap.size P mx dx px) (hl : Codes l) :
    Calls Tryz.prog 6 #[.agg #[.bool sx, .slice X nx cx, .bool tx, .slice P mx dx], .string (bs l)] w fun e w' => Below w.heap.size w w' ∧ e = .returned (.bool true) := by
  have SHO : Hid (∀ g (w' : World), Bk w' g 41 #[.bool sx, .slice X nx cx, .bool tx, .slice P mx dx] → Calls Tryz.prog 24 #[.slice (some ⟨g, 0, none⟩) 1 1] w' fun e w'' => w' = w'' ∧ e = .returned (.bool (decide (nx ≤ 3) && decide (mx ≤ 3)))) := Lib.hid fun g w' h => brief1_any _ _ _ _ _ _ _ _ g w' h
  obtain ⟨sbb, hsb⟩ : ∃ b, (decide (nx ≤ 3) && decide (mx ≤ 3)) = b := ⟨_, rfl⟩
  rw [hsb] at SHO
  obtain ⟨N, hN⟩ : ∃ N, l.length = N := ⟨_, rfl⟩
  have hs := bs_size l
  rw [hN] at hs
  have hsz : ((bs l).size : Int) = (N : Int) := by rw [hs]
  have HPB := Lib.hid (parse_both hl)
  rw [hN] at HPB
  obtain ⟨S, hS⟩ : ∃ S, bs l = S := ⟨_, rfl⟩
  rw [hS] at HPB hs hsz ⊢
  clear hS hl hN
  cases sbb
  · clear hsb hx hp HPB
    go_enter Tryz.func6, Tryz.ntmps6
    go_wp2_with (first
        | (go_at_call 24; with_reducible refine (SHO.out _ _ ?_).mono ?_; (focus (exact (by repeat (first | with_reducible assumption | with_reducible exact Bk.at_ (by first | (simp; done) | omega) | with_reducible refine Bk.alloc ?_ _ | with_reducible refine Bk.drew ?_ | with_reducible refine Bk.drewN ?_ _ | with_reducible refine Bk.step (by with_reducible assumption) ?_ (by first | omega | (simp <;> omega)))))); rintro e w1 ⟨rfl, rfl⟩)
        | (go_at_call 8; with_reducible refine (awake_true _).mono ?_; rintro e w2 ⟨hb2, rfl⟩))
    go_ret
    exact ⟨(by repeat (first | with_reducible exact Below.refl _ _ | with_reducible assumption | with_reducible refine Below.drew ?_ | with_reducible refine Below.drewN ?_ _ | with_reducible refine Below.alloc2 ?_ _ | with_reducible refine Below.alloc ?_ (by first | omega | (simp <;> omega)) _ | with_reducible refine Below.setCell ?_ (by first | omega | (simp <;> omega)) _ | with_reducible refine Below.step2 (by with_reducible assumption) ?_ | with_reducible refine Below.step (by with_reducible assumption) ?_ (by first | omega | (simp <;> omega)))), rfl⟩
  simp only [Bool.and_eq_true, decide_eq_true_eq] at hsb
  obtain ⟨q1, q2⟩ := hsb
  by_cases h100 : N ≤ 100
  · have e1 : decide ((N : Int) > 100) = false := decide_eq_false (by omega)
    have e3 : decide ((N : Int) > 900) = false := decide_eq_false (by omega)
    have hpb := HPB.out (.inl h100)
    clear HPB
    obtain ⟨F, PP, r, hc1, hc2⟩ := hpb
    have HC1 := Lib.hid hc1
    have HC2 := Lib.hid hc2
    have ix : RatH w sx X nx cx tx P mx dx (frac (sg sx (val lx)) (sg tx (val px))) 3 false := ⟨⟨lx, px, fun w' hb => hx.below hb (Nat.le_refl _) hb.size, fun w' hb => hp.below hb (Nat.le_refl _) hb.size, rfl, fun h => by cases h⟩, q1, q2⟩
    generalize frac (sg sx (val lx)) (sg tx (val px)) = x at ix
    obtain ⟨hnum, hden⟩ := ix.bds (by omega)
    obtain ⟨ST, hST⟩ : ∃ ST, bs (fmtR x) = ST := ⟨_, rfl⟩
    have HPF : Hid (∀ W, Calls Tryz.prog 44 #[.string ST] W fun e w' => Below W.heap.size W w' ∧ ∃ s1 A1 n1 c1 s2 A2 n2 c2, e = .returned (.tuple #[.agg #[.bool s1, .slice A1 n1 c1, .bool s2, .slice A2 n2 c2], .int .i64 0]) ∧ RatH w' s1 A1 n1 c1 s2 A2 n2 c2 x 30 true) := Lib.hid fun W => by
      have := parse_fmt hnum hden W
      rwa [hST] at this
    have HFM : Hid (∀ W, Below w.heap.size w W → Calls Tryz.prog 46 #[.agg #[.bool sx, .slice X nx cx, .bool tx, .slice P mx dx]] W fun e w' => Below W.heap.size W w' ∧ e = .returned (.string ST)) := Lib.hid fun W hW => by
      have := format_any ix hW (by omega)
      rwa [hST] at this
    have HRF : Hid (∀ W, Below w.heap.size w W → Calls Tryz.prog 47 #[.agg #[.bool sx, .slice X nx cx, .bool tx, .slice P mx dx]] W fun e w' => Below W.heap.size W w' ∧ e = .returned (.string ST)) := Lib.hid fun W hW => by
      have := refFormat_any ix hW (by omega) (by omega)
      rwa [hST] at this
    clear hc1 hc2 hnum hden hST hx hp q1 q2
    go_enter Tryz.func6, Tryz.ntmps6
    go_upto_region 3 with (go_at_call 24; with_reducible refine (SHO.out _ _ ?_).mono ?_; (focus (exact (by repeat (first | with_reducible assumption | with_reducible exact Bk.at_ (by first | (simp; done) | omega) | with_reducible refine Bk.alloc ?_ _ | with_reducible refine Bk.drew ?_ | with_reducible refine Bk.drewN ?_ _ | with_reducible refine Bk.step (by with_reducible assumption) ?_ (by first | omega | (simp <;> omega)))))); rintro e w1 ⟨rfl, rfl⟩)
    obtain ⟨wa, hW⟩ : ∃ W, W = ((w.alloc (.cells #[.bool sx, .slice X nx cx, .bool tx, .slice P mx dx] 41)).alloc (.cells #[.bool sx, .slice X nx cx, .bool tx, .slice P mx dx] 41)) := ⟨_, rfl⟩
    have HBa : Hid (Below w.heap.size w wa) := Lib.hid (by rw [hW]; exact (by repeat (first | with_reducible exact Below.refl _ _ | with_reducible assumption | with_reducible refine Below.drew ?_ | with_reducible refine Below.drewN ?_ _ | with_reducible refine Below.alloc2 ?_ _ | with_reducible refine Below.alloc ?_ (by first | omega | (simp <;> omega)) _ | with_reducible refine Below.setCell ?_ (by first | omega | (simp <;> omega)) _ | with_reducible refine Below.step2 (by with_reducible assumption) ?_ | with_reducible refine Below.step (by with_reducible assumption) ?_ (by first | omega | (simp <;> omega)))))
    have HXa : Hid (Bk wa w.heap.size 41 #[.bool sx, .slice X nx cx, .bool tx, .slice P mx dx]) := Lib.hid (by rw [hW]; exact (by repeat (first | with_reducible assumption | with_reducible exact Bk.at_ (by first | (simp; done) | omega) | with_reducible refine Bk.alloc ?_ _ | with_reducible refine Bk.drew ?_ | with_reducible refine Bk.drewN ?_ _ | with_reducible refine Bk.step (by with_reducible assumption) ?_ (by first | omega | (simp <;> omega)))))
    rw [← hW]
    clear hW SHO
    go_upto_region 4 with (go_at_call 44; go_loud ((with_reducible refine (HC1.out _).mono ?_); rintro e wb ⟨hbb, s1, A1, n1, c1, s2, A2, n2, c2, rfl, hg⟩; have HBb := Lib.hid (below_to HBa.out hbb HBa.out.size); have HXb := Lib.hid (HXa.out.below hbb HXa.out.lt); have HGb := Lib.hid hg; clear hbb hg))
    obtain ⟨wc, hW⟩ : ∃ W, W = (wb.alloc (.cells #[.bool s1, .slice A1 n1 c1, .bool s2, .slice A2 n2 c2] 41)) := ⟨_, rfl⟩
    have hbc : Below wb.heap.size wb wc := by rw [hW]; exact (by repeat (first | with_reducible exact Below.refl _ _ | with_reducible assumption | with_reducible refine Below.drew ?_ | with_reducible refine Below.drewN ?_ _ | with_reducible refine Below.alloc2 ?_ _ | with_reducible refine Below.alloc ?_ (by first | omega | (simp <;> omega)) _ | with_reducible refine Below.setCell ?_ (by first | omega | (simp <;> omega)) _ | with_reducible refine Below.step2 (by with_reducible assumption) ?_ | with_reducible refine Below.step (by with_reducible assumption) ?_ (by first | omega | (simp <;> omega))))
    have HYc : Hid (Bk wc wb.heap.size 41 #[.bool s1, .slice A1 n1 c1, .bool s2, .slice A2 n2 c2]) := Lib.hid (by rw [hW]; exact (by repeat (first | with_reducible assumption | with_reducible exact Bk.at_ (by first | (simp; done) | omega) | with_reducible refine Bk.alloc ?_ _ | with_reducible refine Bk.drew ?_ | with_reducible refine Bk.drewN ?_ _ | with_reducible refine Bk.step (by with_reducible assumption) ?_ (by first | omega | (simp <;> omega)))))
    rw [← hW]
    have HBc := Lib.hid (below_to HBb.out hbc HBb.out.size); have HXc := Lib.hid (HXb.out.below hbc HXb.out.lt)
    have HG1c := Lib.hid hbc
    clear hW hbc
    go_upto_region 5 with (go_at_call 45; go_loud ((with_reducible refine (HC2.out _).mono ?_); rintro e wd ⟨hbd, s3, A3, n3, c3, s4, A4, n4, c4, rfl, hg⟩; have HBd := Lib.hid (below_to HBc.out hbd HBc.out.size); have HXd := Lib.hid (HXc.out.below hbd HXc.out.lt); have HYd := Lib.hid (HYc.out.below hbd HYc.out.lt); have HG1d := Lib.hid (below_to HG1c.out hbd HG1c.out.size); have HGd := Lib.hid hg; clear hbd hg))
    obtain ⟨we, hW⟩ : ∃ W, W = (wd.alloc (.cells #[.bool s3, .slice A3 n3 c3, .bool s4, .slice A4 n4 c4] 41)) := ⟨_, rfl⟩
    have hbe : Below wd.heap.size wd we := by rw [hW]; exact (by repeat (first | with_reducible exact Below.refl _ _ | with_reducible assumption | with_reducible refine Below.drew ?_ | with_reducible refine Below.drewN ?_ _ | with_reducible refine Below.alloc2 ?_ _ | with_reducible refine Below.alloc ?_ (by first | omega | (simp <;> omega)) _ | with_reducible refine Below.setCell ?_ (by first | omega | (simp <;> omega)) _ | with_reducible refine Below.step2 (by with_reducible assumption) ?_ | with_reducible refine Below.step (by with_reducible assumption) ?_ (by first | omega | (simp <;> omega))))
    have HZe : Hid (Bk we wd.heap.size 41 #[.bool s3, .slice A3 n3 c3, .bool s4, .slice A4 n4 c4]) := Lib.hid (by rw [hW]; exact (by repeat (first | with_reducible assumption | with_reducible exact Bk.at_ (by first | (simp; done) | omega) | with_reducible refine Bk.alloc ?_ _ | with_reducible refine Bk.drew ?_ | with_reducible refine Bk.drewN ?_ _ | with_reducible refine Bk.step (by with_reducible assumption) ?_ (by first | omega | (simp <;> omega)))))
    rw [← hW]
    have HBe := Lib.hid (below_to HBd.out hbe HBd.out.size); have HXe := Lib.hid (HXd.out.below hbe HXd.out.lt)
    have HYe := Lib.hid (HYd.out.below hbe HYd.out.lt)
    have HG1e := Lib.hid (below_to HG1d.out hbe HG1d.out.size)
    have HG2e := Lib.hid hbe
    clear hW hbe
    obtain ⟨x0, x1, x2, x3⟩ := HXe.out.four4
    go_upto_region 6 with (go_at_call 46; go_loud ((with_reducible refine (HFM.out _ HBe.out).mono ?_); rintro e wf ⟨hbf, rfl⟩; have HBf := Lib.hid (below_to HBe.out hbf HBe.out.size); have HXf := Lib.hid (HXe.out.below hbf HXe.out.lt); have HYf := Lib.hid (HYe.out.below hbf HYe.out.lt); have HZf := Lib.hid (HZe.out.below hbf HZe.out.lt); have HG1f := Lib.hid (below_to HG1e.out hbf HG1e.out.size); have HG2f := Lib.hid (below_to HG2e.out hbf HG2e.out.size); clear hbf x0 x1 x2 x3))
    go_upto_region 7 with (go_at_call 44; go_loud ((with_reducible refine (HPF.out _).mono ?_); rintro e wg ⟨hbg, s5, A5, n5, c5, s6, A6, n6, c6, rfl, hr⟩; have HBg := Lib.hid (below_to HBf.out hbg HBf.out.size); have HXg := Lib.hid (HXf.out.below hbg HXf.out.lt); have HYg := Lib.hid (HYf.out.below hbg HYf.out.lt); have HZg := Lib.hid (HZf.out.below hbg HZf.out.lt); have HG1g := Lib.hid (below_to HG1f.out hbg HG1f.out.size); have HG2g := Lib.hid (below_to HG2f.out hbg HG2f.out.size); have HRg := Lib.hid hr; clear hbg hr))
    obtain ⟨wh, hW⟩ : ∃ W, W = (wg.alloc (.cells #[.bool s5, .slice A5 n5 c5, .bool s6, .slice A6 n6 c6] 41)) := ⟨_, rfl⟩
    have hbh : Below wg.heap.size wg wh := by rw [hW]; exact (by repeat (first | with_reducible exact Below.refl _ _ | with_reducible assumption | with_reducible refine Below.drew ?_ | with_reducible refine Below.drewN ?_ _ | with_reducible refine Below.alloc2 ?_ _ | with_reducible refine Below.alloc ?_ (by first | omega | (simp <;> omega)) _ | with_reducible refine Below.setCell ?_ (by first | omega | (simp <;> omega)) _ | with_reducible refine Below.step2 (by with_reducible assumption) ?_ | with_reducible refine Below.step (by with_reducible assumption) ?_ (by first | omega | (simp <;> omega))))
    have HQh : Hid (Bk wh wg.heap.size 41 #[.bool s5, .slice A5 n5 c5, .bool s6, .slice A6 n6 c6]) := Lib.hid (by rw [hW]; exact (by repeat (first | with_reducible assumption | with_reducible exact Bk.at_ (by first | (simp; done) | omega) | with_reducible refine Bk.alloc ?_ _ | with_reducible refine Bk.drew ?_ | with_reducible refine Bk.drewN ?_ _ | with_reducible refine Bk.step (by with_reducible assumption) ?_ (by first | omega | (simp <;> omega)))))
    rw [← hW]
    have HBh := Lib.hid (below_to HBg.out hbh HBg.out.size); have HXh := Lib.hid (HXg.out.below hbh HXg.out.lt)
    have HYh := Lib.hid (HYg.out.below hbh HYg.out.lt)
    have HZh := Lib.hid (HZg.out.below hbh HZg.out.lt)
    have HG1h := Lib.hid (below_to HG1g.out hbh HG1g.out.size)
    have HG2h := Lib.hid (below_to HG2g.out hbh HG2g.out.size)
    have HG3h := Lib.hid hbh
    clear hW hbh HBa HXa HBb HXb HBc HXc HYc HG1c HBd HXd HYd HG1d HBe HXe HYe HZe HG1e HG2e HBf HXf HYf HZf HG1f HG2f HBg HXg HYg HZg HG1g HG2g HC1 HC2 HPF HFM
    obtain ⟨gy, hgy⟩ : ∃ g, wb.heap.size = g := ⟨_, rfl⟩
    obtain ⟨gz, hgz⟩ : ∃ g, wd.heap.size = g := ⟨_, rfl⟩
    obtain ⟨gq, hgq⟩ : ∃ g, wg.heap.size = g := ⟨_, rfl⟩
    rw [hgy] at HYh ⊢
    rw [hgz] at HZh ⊢
    rw [hgq] at HQh ⊢
    clear hgy hgz hgq
    obtain ⟨x0, x1, x2, x3⟩ := HXh.out.four4; obtain ⟨y0, y1, y2, y3⟩ := HYh.out.four4; obtain ⟨z0, z1, z2, z3⟩ := HZh.out.four4; obtain ⟨q0, q1, q2, q3⟩ := HQh.out.four4
    go_region_held3 (fun w' => (w'.cell? ⟨w.heap.size, 0, none⟩ = some (.bool sx) ∧ w'.cell? ⟨w.heap.size, 1, none⟩ = some (.slice X nx cx) ∧ w'.cell? ⟨w.heap.size, 2, none⟩ = some (.bool tx) ∧ w'.cell? ⟨w.heap.size, 3, none⟩ = some (.slice P mx dx)) ∧ (w'.cell? ⟨gy, 0, none⟩ = some (.bool s1) ∧ w'.cell? ⟨gy, 1, none⟩ = some (.slice A1 n1 c1) ∧ w'.cell? ⟨gy, 2, none⟩ = some (.bool s2) ∧ w'.cell? ⟨gy, 3, none⟩ = some (.slice A2 n2 c2)) ∧ (w'.cell? ⟨gz, 0, none⟩ = some (.bool s3) ∧ w'.cell? ⟨gz, 1, none⟩ = some (.slice A3 n3 c3) ∧ w'.cell? ⟨gz, 2, none⟩ = some (.bool s4) ∧ w'.cell? ⟨gz, 3, none⟩ = some (.slice A4 n4 c4)) ∧ (w'.cell? ⟨gq, 0, none⟩ = some (.bool s5) ∧ w'.cell? ⟨gq, 1, none⟩ = some (.slice A5 n5 c5) ∧ w'.cell? ⟨gq, 2, none⟩ = some (.bool s6) ∧ w'.cell? ⟨gq, 3, none⟩ = some (.slice A6 n6 c6))) (go_keep) (first
      | (go_at_call 8; with_reducible refine (awake_true _).mono ?_; rintro e wz ⟨hbz, rfl⟩; have HXz := Lib.hid (HXm.out.below hbz HXm.out.lt); have HYz := Lib.hid (HYm.out.below hbz HYm.out.lt); have HZz := Lib.hid (HZm.out.below hbz HZm.out.lt); have HQz := Lib.hid (HQm.out.below hbz HQm.out.lt); have HBz := Lib.hid (below_to HBm.out hbz HBm.out.size); have HG1z := Lib.hid (below_to HG1m.out hbz HG1m.out.size); have HG2z := Lib.hid (below_to HG2m.out hbz HG2m.out.size); have HG3z := Lib.hid (below_to HG3m.out hbz HG3m.out.size); clear x0 x1 x2 x3 y0 y1 y2 y3 z0 z1 z2 z3 q0 q1 q2 q3; obtain ⟨x0, x1, x2, x3⟩ := HXz.out.four4; obtain ⟨y0, y1, y2, y3⟩ := HYz.out.four4; obtain ⟨z0, z1, z2, z3⟩ := HZz.out.four4; obtain ⟨q0, q1, q2, q3⟩ := HQz.out.four4; clear hbz)
      | (go_at_call 27; (with_reducible refine (sameRH HRg.out HRk.out HG3k.out (Below.refl _ _) rfl).mono ?_); rintro e wm ⟨hbm, rfl⟩; have HXm := Lib.hid (HXk.out.below hbm HXk.out.lt); have HYm := Lib.hid (HYk.out.below hbm HYk.out.lt); have HZm := Lib.hid (HZk.out.below hbm HZk.out.lt); have HQm := Lib.hid (HQk.out.below hbm HQk.out.lt); have HBm := Lib.hid (below_to HBk.out hbm HBk.out.size); have HG1m := Lib.hid (below_to HG1k.out hbm HG1k.out.size); have HG2m := Lib.hid (below_to HG2k.out hbm HG2k.out.size); have HG3m := Lib.hid (below_to HG3k.out hbm HG3k.out.size); clear x0 x1 x2 x3 y0 y1 y2 y3 z0 z1 z2 z3 q0 q1 q2 q3; obtain ⟨x0, x1, x2, x3⟩ := HXm.out.four4; obtain ⟨y0, y1, y2, y3⟩ := HYm.out.four4; obtain ⟨z0, z1, z2, z3⟩ := HZm.out.four4; obtain ⟨q0, q1, q2, q3⟩ := HQm.out.four4; clear hbm)
      | (go_at_call 30; (with_reducible refine (normalH ix HBj.out (by omega)).mono ?_); rintro e wk ⟨hbk, s7, A7, n7, c7, s8, A8, n8, c8, rfl, hr⟩; have HXk := Lib.hid (HXj.out.below hbk HXj.out.lt); have HYk := Lib.hid (HYj.out.below hbk HYj.out.lt); have HZk := Lib.hid (HZj.out.below hbk HZj.out.lt); have HQk := Lib.hid (HQj.out.below hbk HQj.out.lt); have HBk := Lib.hid (below_to HBj.out hbk HBj.out.size); have HG1k := Lib.hid (below_to HG1j.out hbk HG1j.out.size); have HG2k := Lib.hid (below_to HG2j.out hbk HG2j.out.size); have HG3k := Lib.hid (below_to HG3j.out hbk HG3j.out.size); clear x0 x1 x2 x3 y0 y1 y2 y3 z0 z1 z2 z3 q0 q1 q2 q3; obtain ⟨x0, x1, x2, x3⟩ := HXk.out.four4; obtain ⟨y0, y1, y2, y3⟩ := HYk.out.four4; obtain ⟨z0, z1, z2, z3⟩ := HZk.out.four4; obtain ⟨q0, q1, q2, q3⟩ := HQk.out.four4; have HRk := Lib.hid hr; clear hbk hr)
      | (go_at_call 27; (with_reducible refine (same_gg HGb.out HGd.out HG1i.out HG2i.out).mono ?_); rintro e wj ⟨hbj, rfl⟩; have HXj := Lib.hid (HXi.out.below hbj HXi.out.lt); have HYj := Lib.hid (HYi.out.below hbj HYi.out.lt); have HZj := Lib.hid (HZi.out.below hbj HZi.out.lt); have HQj := Lib.hid (HQi.out.below hbj HQi.out.lt); have HBj := Lib.hid (below_to HBi.out hbj HBi.out.size); have HG1j := Lib.hid (below_to HG1i.out hbj HG1i.out.size); have HG2j := Lib.hid (below_to HG2i.out hbj HG2i.out.size); have HG3j := Lib.hid (below_to HG3i.out hbj HG3i.out.size); clear x0 x1 x2 x3 y0 y1 y2 y3 z0 z1 z2 z3 q0 q1 q2 q3; obtain ⟨x0, x1, x2, x3⟩ := HXj.out.four4; obtain ⟨y0, y1, y2, y3⟩ := HYj.out.four4; obtain ⟨z0, z1, z2, z3⟩ := HZj.out.four4; obtain ⟨q0, q1, q2, q3⟩ := HQj.out.four4; clear hbj)
      | (go_at_call 47; (with_reducible refine (HRF.out _ HBh.out.drew).mono ?_); rintro e wi ⟨hbi0, rfl⟩; have hbi := below_drw hbi0; have HXi := Lib.hid (HXh.out.below hbi HXh.out.lt); have HYi := Lib.hid (HYh.out.below hbi HYh.out.lt); have HZi := Lib.hid (HZh.out.below hbi HZh.out.lt); have HQi := Lib.hid (HQh.out.below hbi HQh.out.lt); have HBi := Lib.hid (below_to HBh.out hbi HBh.out.size); have HG1i := Lib.hid (below_to HG1h.out hbi HG1h.out.size); have HG2i := Lib.hid (below_to HG2h.out hbi HG2h.out.size); have HG3i := Lib.hid (below_to HG3h.out hbi HG3h.out.size); clear x0 x1 x2 x3 y0 y1 y2 y3 z0 z1 z2 z3 q0 q1 q2 q3; obtain ⟨x0, x1, x2, x3⟩ := HXi.out.four4; obtain ⟨y0, y1, y2, y3⟩ := HYi.out.four4; obtain ⟨z0, z1, z2, z3⟩ := HZi.out.four4; obtain ⟨q0, q1, q2, q3⟩ := HQi.out.four4; clear hbi hbi0))
    go_wp2
    go_ret
    exact ⟨HBz.out, rfl⟩
  have e1 : decide ((N : Int) > 100) = true := decide_eq_true (by omega)
  by_cases h800 : N ≤ 800
  · have e2 : decide ((N : Int) ≤ 800) = true := decide_eq_true (by omega)
    clear hx hp HPB q1 q2
    go_enter Tryz.func6, Tryz.ntmps6
    go_wp2_with (first
        | (go_at_call 24; with_reducible refine (SHO.out _ _ ?_).mono ?_; (focus (exact (by repeat (first | with_reducible assumption | with_reducible exact Bk.at_ (by first | (simp; done) | omega) | with_reducible refine Bk.alloc ?_ _ | with_reducible refine Bk.drew ?_ | with_reducible refine Bk.drewN ?_ _ | with_reducible refine Bk.step (by with_reducible assumption) ?_ (by first | omega | (simp <;> omega)))))); rintro e w1 ⟨rfl, rfl⟩)
        | (go_at_call 8; with_reducible refine (awake_true _).mono ?_; rintro e w2 ⟨hb2, rfl⟩))
    go_ret
    exact ⟨(by repeat (first | with_reducible exact Below.refl _ _ | with_reducible assumption | with_reducible refine Below.drew ?_ | with_reducible refine Below.drewN ?_ _ | with_reducible refine Below.alloc2 ?_ _ | with_reducible refine Below.alloc ?_ (by first | omega | (simp <;> omega)) _ | with_reducible refine Below.setCell ?_ (by first | omega | (simp <;> omega)) _ | with_reducible refine Below.step2 (by with_reducible assumption) ?_ | with_reducible refine Below.step (by with_reducible assumption) ?_ (by first | omega | (simp <;> omega)))), rfl⟩
  have e2 : decide ((N : Int) ≤ 800) = false := decide_eq_false (by omega)
  by_cases h900 : N ≤ 900
  · have e3 : decide ((N : Int) > 900) = false := decide_eq_false (by omega)
    have hpb := HPB.out (.inr (by omega))
    clear HPB
    obtain ⟨F, PP, r, hc1, hc2⟩ := hpb
    have HC1 := Lib.hid hc1
    have HC2 := Lib.hid hc2
    have ix : RatH w sx X nx cx tx P mx dx (frac (sg sx (val lx)) (sg tx (val px))) 3 false := ⟨⟨lx, px, fun w' hb => hx.below hb (Nat.le_refl _) hb.size, fun w' hb => hp.below hb (Nat.le_refl _) hb.size, rfl, fun h => by cases h⟩, q1, q2⟩
    generalize frac (sg sx (val lx)) (sg tx (val px)) = x at ix
    obtain ⟨hnum, hden⟩ := ix.bds (by omega)
    obtain ⟨ST, hST⟩ : ∃ ST, bs (fmtR x) = ST := ⟨_, rfl⟩
    have HPF : Hid (∀ W, Calls Tryz.prog 44 #[.string ST] W fun e w' => Below W.heap.size W w' ∧ ∃ s1 A1 n1 c1 s2 A2 n2 c2, e = .returned (.tuple #[.agg #[.bool s1, .slice A1 n1 c1, .bool s2, .slice A2 n2 c2], .int .i64 0]) ∧ RatH w' s1 A1 n1 c1 s2 A2 n2 c2 x 30 true) := Lib.hid fun W => by
      have := parse_fmt hnum hden W
      rwa [hST] at this
    have HFM : Hid (∀ W, Below w.heap.size w W → Calls Tryz.prog 46 #[.agg #[.bool sx, .slice X nx cx, .bool tx, .slice P mx dx]] W fun e w' => Below W.heap.size W w' ∧ e = .returned (.string ST)) := Lib.hid fun W hW => by
      have := format_any ix hW (by omega)
      rwa [hST] at this
    have HRF : Hid (∀ W, Below w.heap.size w W → Calls Tryz.prog 47 #[.agg #[.bool sx, .slice X nx cx, .bool tx, .slice P mx dx]] W fun e w' => Below W.heap.size W w' ∧ e = .returned (.string ST)) := Lib.hid fun W hW => by
      have := refFormat_any ix hW (by omega) (by omega)
      rwa [hST] at this
    clear hc1 hc2 hnum hden hST hx hp q1 q2
    go_enter Tryz.func6, Tryz.ntmps6
    go_upto_region 3 with (go_at_call 24; with_reducible refine (SHO.out _ _ ?_).mono ?_; (focus (exact (by repeat (first | with_reducible assumption | with_reducible exact Bk.at_ (by first | (simp; done) | omega) | with_reducible refine Bk.alloc ?_ _ | with_reducible refine Bk.drew ?_ | with_reducible refine Bk.drewN ?_ _ | with_reducible refine Bk.step (by with_reducible assumption) ?_ (by first | omega | (simp <;> omega)))))); rintro e w1 ⟨rfl, rfl⟩)
    obtain ⟨wa, hW⟩ : ∃ W, W = ((w.alloc (.cells #[.bool sx, .slice X nx cx, .bool tx, .slice P mx dx] 41)).alloc (.cells #[.bool sx, .slice X nx cx, .bool tx, .slice P mx dx] 41)) := ⟨_, rfl⟩
    have HBa : Hid (Below w.heap.size w wa) := Lib.hid (by rw [hW]; exact (by repeat (first | with_reducible exact Below.refl _ _ | with_reducible assumption | with_reducible refine Below.drew ?_ | with_reducible refine Below.drewN ?_ _ | with_reducible refine Below.alloc2 ?_ _ | with_reducible refine Below.alloc ?_ (by first | omega | (simp <;> omega)) _ | with_reducible refine Below.setCell ?_ (by first | omega | (simp <;> omega)) _ | with_reducible refine Below.step2 (by with_reducible assumption) ?_ | with_reducible refine Below.step (by with_reducible assumption) ?_ (by first | omega | (simp <;> omega)))))
    have HXa : Hid (Bk wa w.heap.size 41 #[.bool sx, .slice X nx cx, .bool tx, .slice P mx dx]) := Lib.hid (by rw [hW]; exact (by repeat (first | with_reducible assumption | with_reducible exact Bk.at_ (by first | (simp; done) | omega) | with_reducible refine Bk.alloc ?_ _ | with_reducible refine Bk.drew ?_ | with_reducible refine Bk.drewN ?_ _ | with_reducible refine Bk.step (by with_reducible assumption) ?_ (by first | omega | (simp <;> omega)))))
    rw [← hW]
    clear hW SHO
    go_upto_region 4 with (go_at_call 44; go_loud ((with_reducible refine (HC1.out _).mono ?_); rintro e wb ⟨hbb, s1, A1, n1, c1, s2, A2, n2, c2, rfl, hg⟩; have HBb := Lib.hid (below_to HBa.out hbb HBa.out.size); have HXb := Lib.hid (HXa.out.below hbb HXa.out.lt); have HGb := Lib.hid hg; clear hbb hg))
    obtain ⟨wc, hW⟩ : ∃ W, W = (wb.alloc (.cells #[.bool s1, .slice A1 n1 c1, .bool s2, .slice A2 n2 c2] 41)) := ⟨_, rfl⟩
    have hbc : Below wb.heap.size wb wc := by rw [hW]; exact (by repeat (first | with_reducible exact Below.refl _ _ | with_reducible assumption | with_reducible refine Below.drew ?_ | with_reducible refine Below.drewN ?_ _ | with_reducible refine Below.alloc2 ?_ _ | with_reducible refine Below.alloc ?_ (by first | omega | (simp <;> omega)) _ | with_reducible refine Below.setCell ?_ (by first | omega | (simp <;> omega)) _ | with_reducible refine Below.step2 (by with_reducible assumption) ?_ | with_reducible refine Below.step (by with_reducible assumption) ?_ (by first | omega | (simp <;> omega))))
    have HYc : Hid (Bk wc wb.heap.size 41 #[.bool s1, .slice A1 n1 c1, .bool s2, .slice A2 n2 c2]) := Lib.hid (by rw [hW]; exact (by repeat (first | with_reducible assumption | with_reducible exact Bk.at_ (by first | (simp; done) | omega) | with_reducible refine Bk.alloc ?_ _ | with_reducible refine Bk.drew ?_ | with_reducible refine Bk.drewN ?_ _ | with_reducible refine Bk.step (by with_reducible assumption) ?_ (by first | omega | (simp <;> omega)))))
    rw [← hW]
    have HBc := Lib.hid (below_to HBb.out hbc HBb.out.size); have HXc := Lib.hid (HXb.out.below hbc HXb.out.lt)
    have HG1c := Lib.hid hbc
    clear hW hbc
    go_upto_region 5 with (go_at_call 45; go_loud ((with_reducible refine (HC2.out _).mono ?_); rintro e wd ⟨hbd, s3, A3, n3, c3, s4, A4, n4, c4, rfl, hg⟩; have HBd := Lib.hid (below_to HBc.out hbd HBc.out.size); have HXd := Lib.hid (HXc.out.below hbd HXc.out.lt); have HYd := Lib.hid (HYc.out.below hbd HYc.out.lt); have HG1d := Lib.hid (below_to HG1c.out hbd HG1c.out.size); have HGd := Lib.hid hg; clear hbd hg))
    obtain ⟨we, hW⟩ : ∃ W, W = (wd.alloc (.cells #[.bool s3, .slice A3 n3 c3, .bool s4, .slice A4 n4 c4] 41)) := ⟨_, rfl⟩
    have hbe : Below wd.heap.size wd we := by rw [hW]; exact (by repeat (first | with_reducible exact Below.refl _ _ | with_reducible assumption | with_reducible refine Below.drew ?_ | with_reducible refine Below.drewN ?_ _ | with_reducible refine Below.alloc2 ?_ _ | with_reducible refine Below.alloc ?_ (by first | omega | (simp <;> omega)) _ | with_reducible refine Below.setCell ?_ (by first | omega | (simp <;> omega)) _ | with_reducible refine Below.step2 (by with_reducible assumption) ?_ | with_reducible refine Below.step (by with_reducible assumption) ?_ (by first | omega | (simp <;> omega))))
    have HZe : Hid (Bk we wd.heap.size 41 #[.bool s3, .slice A3 n3 c3, .bool s4, .slice A4 n4 c4]) := Lib.hid (by rw [hW]; exact (by repeat (first | with_reducible assumption | with_reducible exact Bk.at_ (by first | (simp; done) | omega) | with_reducible refine Bk.alloc ?_ _ | with_reducible refine Bk.drew ?_ | with_reducible refine Bk.drewN ?_ _ | with_reducible refine Bk.step (by with_reducible assumption) ?_ (by first | omega | (simp <;> omega)))))
    rw [← hW]
    have HBe := Lib.hid (below_to HBd.out hbe HBd.out.size); have HXe := Lib.hid (HXd.out.below hbe HXd.out.lt)
    have HYe := Lib.hid (HYd.out.below hbe HYd.out.lt)
    have HG1e := Lib.hid (below_to HG1d.out hbe HG1d.out.size)
    have HG2e := Lib.hid hbe
    clear hW hbe
    obtain ⟨x0, x1, x2, x3⟩ := HXe.out.four4
    go_upto_region 6 with (go_at_call 46; go_loud ((with_reducible refine (HFM.out _ HBe.out).mono ?_); rintro e wf ⟨hbf, rfl⟩; have HBf := Lib.hid (below_to HBe.out hbf HBe.out.size); have HXf := Lib.hid (HXe.out.below hbf HXe.out.lt); have HYf := Lib.hid (HYe.out.below hbf HYe.out.lt); have HZf := Lib.hid (HZe.out.below hbf HZe.out.lt); have HG1f := Lib.hid (below_to HG1e.out hbf HG1e.out.size); have HG2f := Lib.hid (below_to HG2e.out hbf HG2e.out.size); clear hbf x0 x1 x2 x3))
    go_upto_region 7 with (go_at_call 44; go_loud ((with_reducible refine (HPF.out _).mono ?_); rintro e wg ⟨hbg, s5, A5, n5, c5, s6, A6, n6, c6, rfl, hr⟩; have HBg := Lib.hid (below_to HBf.out hbg HBf.out.size); have HXg := Lib.hid (HXf.out.below hbg HXf.out.lt); have HYg := Lib.hid (HYf.out.below hbg HYf.out.lt); have HZg := Lib.hid (HZf.out.below hbg HZf.out.lt); have HG1g := Lib.hid (below_to HG1f.out hbg HG1f.out.size); have HG2g := Lib.hid (below_to HG2f.out hbg HG2f.out.size); have HRg := Lib.hid hr; clear hbg hr))
    obtain ⟨wh, hW⟩ : ∃ W, W = (wg.alloc (.cells #[.bool s5, .slice A5 n5 c5, .bool s6, .slice A6 n6 c6] 41)) := ⟨_, rfl⟩
    have hbh : Below wg.heap.size wg wh := by rw [hW]; exact (by repeat (first | with_reducible exact Below.refl _ _ | with_reducible assumption | with_reducible refine Below.drew ?_ | with_reducible refine Below.drewN ?_ _ | with_reducible refine Below.alloc2 ?_ _ | with_reducible refine Below.alloc ?_ (by first | omega | (simp <;> omega)) _ | with_reducible refine Below.setCell ?_ (by first | omega | (simp <;> omega)) _ | with_reducible refine Below.step2 (by with_reducible assumption) ?_ | with_reducible refine Below.step (by with_reducible assumption) ?_ (by first | omega | (simp <;> omega))))
    have HQh : Hid (Bk wh wg.heap.size 41 #[.bool s5, .slice A5 n5 c5, .bool s6, .slice A6 n6 c6]) := Lib.hid (by rw [hW]; exact (by repeat (first | with_reducible assumption | with_reducible exact Bk.at_ (by first | (simp; done) | omega) | with_reducible refine Bk.alloc ?_ _ | with_reducible refine Bk.drew ?_ | with_reducible refine Bk.drewN ?_ _ | with_reducible refine Bk.step (by with_reducible assumption) ?_ (by first | omega | (simp <;> omega)))))
    rw [← hW]
    have HBh := Lib.hid (below_to HBg.out hbh HBg.out.size); have HXh := Lib.hid (HXg.out.below hbh HXg.out.lt)
    have HYh := Lib.hid (HYg.out.below hbh HYg.out.lt)
    have HZh := Lib.hid (HZg.out.below hbh HZg.out.lt)
    have HG1h := Lib.hid (below_to HG1g.out hbh HG1g.out.size)
    have HG2h := Lib.hid (below_to HG2g.out hbh HG2g.out.size)
    have HG3h := Lib.hid hbh
    clear hW hbh HBa HXa HBb HXb HBc HXc HYc HG1c HBd HXd HYd HG1d HBe HXe HYe HZe HG1e HG2e HBf HXf HYf HZf HG1f HG2f HBg HXg HYg HZg HG1g HG2g HC1 HC2 HPF HFM
    obtain ⟨gy, hgy⟩ : ∃ g, wb.heap.size = g := ⟨_, rfl⟩
    obtain ⟨gz, hgz⟩ : ∃ g, wd.heap.size = g := ⟨_, rfl⟩
    obtain ⟨gq, hgq⟩ : ∃ g, wg.heap.size = g := ⟨_, rfl⟩
    rw [hgy] at HYh ⊢
    rw [hgz] at HZh ⊢
    rw [hgq] at HQh ⊢
    clear hgy hgz hgq
    obtain ⟨x0, x1, x2, x3⟩ := HXh.out.four4; obtain ⟨y0, y1, y2, y3⟩ := HYh.out.four4; obtain ⟨z0, z1, z2, z3⟩ := HZh.out.four4; obtain ⟨q0, q1, q2, q3⟩ := HQh.out.four4
    go_region_held3 (fun w' => (w'.cell? ⟨w.heap.size, 0, none⟩ = some (.bool sx) ∧ w'.cell? ⟨w.heap.size, 1, none⟩ = some (.slice X nx cx) ∧ w'.cell? ⟨w.heap.size, 2, none⟩ = some (.bool tx) ∧ w'.cell? ⟨w.heap.size, 3, none⟩ = some (.slice P mx dx)) ∧ (w'.cell? ⟨gy, 0, none⟩ = some (.bool s1) ∧ w'.cell? ⟨gy, 1, none⟩ = some (.slice A1 n1 c1) ∧ w'.cell? ⟨gy, 2, none⟩ = some (.bool s2) ∧ w'.cell? ⟨gy, 3, none⟩ = some (.slice A2 n2 c2)) ∧ (w'.cell? ⟨gz, 0, none⟩ = some (.bool s3) ∧ w'.cell? ⟨gz, 1, none⟩ = some (.slice A3 n3 c3) ∧ w'.cell? ⟨gz, 2, none⟩ = some (.bool s4) ∧ w'.cell? ⟨gz, 3, none⟩ = some (.slice A4 n4 c4)) ∧ (w'.cell? ⟨gq, 0, none⟩ = some (.bool s5) ∧ w'.cell? ⟨gq, 1, none⟩ = some (.slice A5 n5 c5) ∧ w'.cell? ⟨gq, 2, none⟩ = some (.bool s6) ∧ w'.cell? ⟨gq, 3, none⟩ = some (.slice A6 n6 c6))) (go_keep) (first
      | (go_at_call 8; with_reducible refine (awake_true _).mono ?_; rintro e wz ⟨hbz, rfl⟩; have HXz := Lib.hid (HXm.out.below hbz HXm.out.lt); have HYz := Lib.hid (HYm.out.below hbz HYm.out.lt); have HZz := Lib.hid (HZm.out.below hbz HZm.out.lt); have HQz := Lib.hid (HQm.out.below hbz HQm.out.lt); have HBz := Lib.hid (below_to HBm.out hbz HBm.out.size); have HG1z := Lib.hid (below_to HG1m.out hbz HG1m.out.size); have HG2z := Lib.hid (below_to HG2m.out hbz HG2m.out.size); have HG3z := Lib.hid (below_to HG3m.out hbz HG3m.out.size); clear x0 x1 x2 x3 y0 y1 y2 y3 z0 z1 z2 z3 q0 q1 q2 q3; obtain ⟨x0, x1, x2, x3⟩ := HXz.out.four4; obtain ⟨y0, y1, y2, y3⟩ := HYz.out.four4; obtain ⟨z0, z1, z2, z3⟩ := HZz.out.four4; obtain ⟨q0, q1, q2, q3⟩ := HQz.out.four4; clear hbz)
      | (go_at_call 27; (with_reducible refine (sameRH HRg.out HRk.out HG3k.out (Below.refl _ _) rfl).mono ?_); rintro e wm ⟨hbm, rfl⟩; have HXm := Lib.hid (HXk.out.below hbm HXk.out.lt); have HYm := Lib.hid (HYk.out.below hbm HYk.out.lt); have HZm := Lib.hid (HZk.out.below hbm HZk.out.lt); have HQm := Lib.hid (HQk.out.below hbm HQk.out.lt); have HBm := Lib.hid (below_to HBk.out hbm HBk.out.size); have HG1m := Lib.hid (below_to HG1k.out hbm HG1k.out.size); have HG2m := Lib.hid (below_to HG2k.out hbm HG2k.out.size); have HG3m := Lib.hid (below_to HG3k.out hbm HG3k.out.size); clear x0 x1 x2 x3 y0 y1 y2 y3 z0 z1 z2 z3 q0 q1 q2 q3; obtain ⟨x0, x1, x2, x3⟩ := HXm.out.four4; obtain ⟨y0, y1, y2, y3⟩ := HYm.out.four4; obtain ⟨z0, z1, z2, z3⟩ := HZm.out.four4; obtain ⟨q0, q1, q2, q3⟩ := HQm.out.four4; clear hbm)
      | (go_at_call 30; (with_reducible refine (normalH ix HBj.out (by omega)).mono ?_); rintro e wk ⟨hbk, s7, A7, n7, c7, s8, A8, n8, c8, rfl, hr⟩; have HXk := Lib.hid (HXj.out.below hbk HXj.out.lt); have HYk := Lib.hid (HYj.out.below hbk HYj.out.lt); have HZk := Lib.hid (HZj.out.below hbk HZj.out.lt); have HQk := Lib.hid (HQj.out.below hbk HQj.out.lt); have HBk := Lib.hid (below_to HBj.out hbk HBj.out.size); have HG1k := Lib.hid (below_to HG1j.out hbk HG1j.out.size); have HG2k := Lib.hid (below_to HG2j.out hbk HG2j.out.size); have HG3k := Lib.hid (below_to HG3j.out hbk HG3j.out.size); clear x0 x1 x2 x3 y0 y1 y2 y3 z0 z1 z2 z3 q0 q1 q2 q3; obtain ⟨x0, x1, x2, x3⟩ := HXk.out.four4; obtain ⟨y0, y1, y2, y3⟩ := HYk.out.four4; obtain ⟨z0, z1, z2, z3⟩ := HZk.out.four4; obtain ⟨q0, q1, q2, q3⟩ := HQk.out.four4; have HRk := Lib.hid hr; clear hbk hr)
      | (go_at_call 27; (with_reducible refine (same_gg HGb.out HGd.out HG1i.out HG2i.out).mono ?_); rintro e wj ⟨hbj, rfl⟩; have HXj := Lib.hid (HXi.out.below hbj HXi.out.lt); have HYj := Lib.hid (HYi.out.below hbj HYi.out.lt); have HZj := Lib.hid (HZi.out.below hbj HZi.out.lt); have HQj := Lib.hid (HQi.out.below hbj HQi.out.lt); have HBj := Lib.hid (below_to HBi.out hbj HBi.out.size); have HG1j := Lib.hid (below_to HG1i.out hbj HG1i.out.size); have HG2j := Lib.hid (below_to HG2i.out hbj HG2i.out.size); have HG3j := Lib.hid (below_to HG3i.out hbj HG3i.out.size); clear x0 x1 x2 x3 y0 y1 y2 y3 z0 z1 z2 z3 q0 q1 q2 q3; obtain ⟨x0, x1, x2, x3⟩ := HXj.out.four4; obtain ⟨y0, y1, y2, y3⟩ := HYj.out.four4; obtain ⟨z0, z1, z2, z3⟩ := HZj.out.four4; obtain ⟨q0, q1, q2, q3⟩ := HQj.out.four4; clear hbj)
      | (go_at_call 47; (with_reducible refine (HRF.out _ HBh.out.drew).mono ?_); rintro e wi ⟨hbi0, rfl⟩; have hbi := below_drw hbi0; have HXi := Lib.hid (HXh.out.below hbi HXh.out.lt); have HYi := Lib.hid (HYh.out.below hbi HYh.out.lt); have HZi := Lib.hid (HZh.out.below hbi HZh.out.lt); have HQi := Lib.hid (HQh.out.below hbi HQh.out.lt); have HBi := Lib.hid (below_to HBh.out hbi HBh.out.size); have HG1i := Lib.hid (below_to HG1h.out hbi HG1h.out.size); have HG2i := Lib.hid (below_to HG2h.out hbi HG2h.out.size); have HG3i := Lib.hid (below_to HG3h.out hbi HG3h.out.size); clear x0 x1 x2 x3 y0 y1 y2 y3 z0 z1 z2 z3 q0 q1 q2 q3; obtain ⟨x0, x1, x2, x3⟩ := HXi.out.four4; obtain ⟨y0, y1, y2, y3⟩ := HYi.out.four4; obtain ⟨z0, z1, z2, z3⟩ := HZi.out.four4; obtain ⟨q0, q1, q2, q3⟩ := HQi.out.four4; clear hbi hbi0))
    go_wp2
    go_ret
    exact ⟨HBz.out, rfl⟩
  · have e3 : decide ((N : Int) > 900) = true := decide_eq_true (by omega)
    clear hx hp HPB q1 q2
    go_enter Tryz.func6, Tryz.ntmps6
    go_wp2_with (first
        | (go_at_call 24; with_reducible refine (SHO.out _ _ ?_).mono ?_; (focus (exact (by repeat (first | with_reducible assumption | with_reducible exact Bk.at_ (by first | (simp; done) | omega) | with_reducible refine Bk.alloc ?_ _ | with_reducible refine Bk.drew ?_ | with_reducible refine Bk.drewN ?_ _ | with_reducible refine Bk.step (by with_reducible assumption) ?_ (by first | omega | (simp <;> omega)))))); rintro e w1 ⟨rfl, rfl⟩)
        | (go_at_call 8; with_reducible refine (awake_true _).mono ?_; rintro e w2 ⟨hb2, rfl⟩))
    go_ret
    exact ⟨(by repeat (first | with_reducible exact Below.refl _ _ | with_reducible assumption | with_reducible refine Below.drew ?_ | with_reducible refine Below.drewN ?_ _ | with_reducible refine Below.alloc2 ?_ _ | with_reducible refine Below.alloc ?_ (by first | omega | (simp <;> omega)) _ | with_reducible refine Below.setCell ?_ (by first | omega | (simp <;> omega)) _ | with_reducible refine Below.step2 (by with_reducible assumption) ?_ | with_reducible refine Below.step (by with_reducible assumption) ?_ (by first | omega | (simp <;> omega)))), rfl⟩

end Go.Proofs.YtfnibkodccfocaaGreat

namespace Go.Proofs.YtfnibkodccfocaaGreat
open Go.ChangeShapes Go.WideShapes Go.ChangeAt Go.RowKit Go.Joins Go.Deep

set_option maxRecDepth 100000 in
/-- An argument that is a text. -/
theorem open_str1 {H : Type} {enc : TypeId × Value → H} {w : World} {v : Value} {d : DataW H} {ps : List MemPlace} {r : Reach} {b0 : Nat}
    (hv : Value.okWide Tryz.prog w r b0 9 v) (h : DataW.Trod enc Tryz.prog w 0 (fun _ => true) true 9 v d ps) : ∃ l : List Nat, Codes l ∧ v = .string (bs l) := by
  obtain ⟨s, e, -⟩ := Go.ChangeMaps.open_string Tryz.underlying9 hv h
  obtain ⟨l, hl, rfl⟩ := bs_of s
  exact ⟨l, hl, e⟩
set_option maxRecDepth 100000 in
theorem texts_lifted (os : Os) (started : os.Started) (H : Type) (enc : TypeId × Value → H) :
    ReturnsInHanded {} Tryz.checked os 6 .any (Rows.exactTextsSpec.pre6 enc Tryz.prog Tryz.f6 Rows.exactTextsRow.domain false) (Rows.exactTextsSpec.post enc Tryz.prog Tryz.f6 false true false false) := by
  refine returnsInHanded_of_change (C := Tryz.checked) Tryz.own started (by kernel_rfl) Tryz.func6
    (ChangeSpec.witness6 (enc := enc) (C := Tryz.checked) false ⟨#[], #[.agg #[.bool false, .slice none 0 0, .bool false, .slice none 0 0], .string ⟨#[]⟩], []⟩ 8 (by kernel_rfl) (by kernel_rfl) (by kernel_rfl) (by kernel_rfl)) ?_
  intro W base args ds gs before hval0 hW _ _
  have hval : ∀ (j : Nat) t v, Tryz.f6.params[j]? = some t → args[j]? = some v → Value.okWide Tryz.prog W .any base t v := hval0
  have hW' := hW
  obtain ⟨p, q, hA0, hV, rfl, _, _⟩ := hW
  have hA : DataW.TrodAll enc Tryz.prog W 0 (fun _ => true) true Tryz.f6.params.toList args.toList ds p := hA0
  rw [Tryz.params6] at hA hval
  obtain ⟨v0, v1, d0, d1, p0, p1, rfl, rfl, rfl, h0, h1⟩ := trodAll_two hA
  obtain ⟨rfl, rfl⟩ := trodVars_none hV
  obtain ⟨s0, A0, n0, c0, l0, t0, B0, m0, e0, k0, rfl, g0, j0⟩ := open_R (hval 0 _ v0 rfl rfl) h0
  obtain ⟨l, hl, rfl⟩ := open_str1 (hval 1 _ v1 rfl rfl) h1
  refine (lawTexts_any s0 t0 A0 B0 n0 c0 m0 e0 l0 k0 l W g0 j0 hl).mono fun e W' ⟨hb, he⟩ => ?_
  subst he
  exact ⟨_, rfl, law_post (tb := 4) Tryz.laidOut (by kernel_rfl) (by kernel_rfl) Tryz.underlying4 rfl hW' rfl rfl rfl hb⟩

theorem texts_holds : Rows.ExactTextsSaid :=
  OpenClaim.holds_of_wide 6 Tryz.f6 rfl rfl rfl rfl rfl rfl rfl ⟨rfl, rfl, rfl, rfl, rfl⟩ rfl rfl rfl rfl rfl (by kernel_rfl) Tryz.func6 (by kernel_rfl)
    (of_decide_eq_true (by kernel_rfl)) (by unfold Func.isWrapper; first | (rw [if_pos (by decide +kernel)]; kernel_rfl) | (rw [if_neg (by decide +kernel)]; exact ⟨rfl, rfl⟩))
    (fun os started H enc _ => texts_lifted os started H enc)

end Go.Proofs.YtfnibkodccfocaaGreat
