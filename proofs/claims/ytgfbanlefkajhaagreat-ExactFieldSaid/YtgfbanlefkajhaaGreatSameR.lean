/- Same and brief. -/
import Derived.Test.YtgfbanlefkajhaaGreatFloorR
import Derived.Test.YtgfbanlefkajhaaGreatAddR
import Derived.Test.YtgfbanlefkajhaaGreatAwake1
namespace Go.Proofs.YtgfbanlefkajhaaGreat
open Go.RowKit

set_option maxRecDepth 100000 in
set_option maxHeartbeats 4000000 in
theorem sameRH {s1 s2 s3 s4 : Bool} {A1 A2 A3 A4 : Option Addr} {n1 c1 n2 c2 n3 c3 n4 c4 K1 K2 : Nat} {x y : Rat} {w1 w2 w : World} (h1 : RatH w1 s1 A1 n1 c1 s2 A2 n2 c2 x K1 true) (h2 : RatH w2 s3 A3 n3 c3 s4 A4 n4 c4 y K2 true) (b1 : Below w1.heap.size w1 w) (b2 : Below w2.heap.size w2 w) (hxy : x = y) :
    Calls Tryz.prog 24 #[.agg #[.bool s1, .slice A1 n1 c1, .bool s2, .slice A2 n2 c2], .agg #[.bool s3, .slice A3 n3 c3, .bool s4, .slice A4 n4 c4]] w fun e w' => Below w.heap.size w w' ∧ e = .returned (.bool true) := by
  obtain ⟨p1, p2⟩ := h1.parts
  obtain ⟨p3, p4⟩ := h2.parts
  have e1 : x.num = y.num := by rw [hxy]
  have e2 : (x.den : Int) = (y.den : Int) := by rw [hxy]
  clear h1 h2
  go_enter Tryz.func24, Tryz.ntmps24
  go_wp2_with (first
    | (go_at_call 10; with_reducible refine (sameH p1 p3 ?_ ?_ e1).mono ?_; (focus (exact (by repeat (first | with_reducible exact Below.refl _ _ | with_reducible assumption | with_reducible refine Below.drew ?_ | with_reducible refine Below.drewN ?_ _ | with_reducible refine Below.alloc2 ?_ _ | with_reducible refine Below.alloc ?_ (by first | omega | (simp <;> omega)) _ | with_reducible refine Below.setCell ?_ (by first | omega | (simp <;> omega)) _ | with_reducible refine Below.step2 (by with_reducible assumption) ?_ | with_reducible refine Below.step (by with_reducible assumption) ?_ (by first | omega | (simp <;> omega)))))); (focus (exact (by repeat (first | with_reducible exact Below.refl _ _ | with_reducible assumption | with_reducible refine Below.drew ?_ | with_reducible refine Below.drewN ?_ _ | with_reducible refine Below.alloc2 ?_ _ | with_reducible refine Below.alloc ?_ (by first | omega | (simp <;> omega)) _ | with_reducible refine Below.setCell ?_ (by first | omega | (simp <;> omega)) _ | with_reducible refine Below.step2 (by with_reducible assumption) ?_ | with_reducible refine Below.step (by with_reducible assumption) ?_ (by first | omega | (simp <;> omega)))))); rintro e wn ⟨hbn, rfl⟩; have kx : Bk wn w.heap.size 41 #[.bool s1, .slice A1 n1 c1, .bool s2, .slice A2 n2 c2] := (by repeat (first | with_reducible assumption | with_reducible exact Bk.at_ (by first | (simp; done) | omega) | with_reducible refine Bk.alloc ?_ _ | with_reducible refine Bk.drew ?_ | with_reducible refine Bk.drewN ?_ _ | with_reducible refine Bk.step (by with_reducible assumption) ?_ (by first | omega | (simp <;> omega)))); have ky : Bk wn (w.heap.size + 1) 41 #[.bool s3, .slice A3 n3 c3, .bool s4, .slice A4 n4 c4] := (by repeat (first | with_reducible assumption | with_reducible exact Bk.at_ (by first | (simp; done) | omega) | with_reducible refine Bk.alloc ?_ _ | with_reducible refine Bk.drew ?_ | with_reducible refine Bk.drewN ?_ _ | with_reducible refine Bk.step (by with_reducible assumption) ?_ (by first | omega | (simp <;> omega)))); obtain ⟨⟨x0, x1, x2, x3⟩, -⟩ := kx.quad; obtain ⟨⟨y0, y1, y2, y3⟩, -⟩ := ky.quad; have ozn := hbn.size; (try simp at ozn); have ox := kx.lt; have oy := ky.lt)
    | (go_at_call 10; with_reducible refine (sameH p2 p4 ?_ ?_ e2).mono ?_; (focus (exact (by repeat (first | with_reducible exact Below.refl _ _ | with_reducible assumption | with_reducible refine Below.drew ?_ | with_reducible refine Below.drewN ?_ _ | with_reducible refine Below.alloc2 ?_ _ | with_reducible refine Below.alloc ?_ (by first | omega | (simp <;> omega)) _ | with_reducible refine Below.setCell ?_ (by first | omega | (simp <;> omega)) _ | with_reducible refine Below.step2 (by with_reducible assumption) ?_ | with_reducible refine Below.step (by with_reducible assumption) ?_ (by first | omega | (simp <;> omega)))))); (focus (exact (by repeat (first | with_reducible exact Below.refl _ _ | with_reducible assumption | with_reducible refine Below.drew ?_ | with_reducible refine Below.drewN ?_ _ | with_reducible refine Below.alloc2 ?_ _ | with_reducible refine Below.alloc ?_ (by first | omega | (simp <;> omega)) _ | with_reducible refine Below.setCell ?_ (by first | omega | (simp <;> omega)) _ | with_reducible refine Below.step2 (by with_reducible assumption) ?_ | with_reducible refine Below.step (by with_reducible assumption) ?_ (by first | omega | (simp <;> omega)))))); rintro e wm ⟨hbm, rfl⟩))
  go_ret
  exact ⟨(by repeat (first | with_reducible exact Below.refl _ _ | with_reducible assumption | with_reducible refine Below.drew ?_ | with_reducible refine Below.drewN ?_ _ | with_reducible refine Below.alloc2 ?_ _ | with_reducible refine Below.alloc ?_ (by first | omega | (simp <;> omega)) _ | with_reducible refine Below.setCell ?_ (by first | omega | (simp <;> omega)) _ | with_reducible refine Below.step2 (by with_reducible assumption) ?_ | with_reducible refine Below.step (by with_reducible assumption) ?_ (by first | omega | (simp <;> omega)))), rfl⟩
set_option maxHeartbeats 4000000 in
theorem brief_any (s1 t1 s2 t2 s3 t3 : Bool) (A1 B1 A2 B2 A3 B3 : Option Addr) (n1 c1 m1 d1 n2 c2 m2 d2 n3 c3 m3 d3 g : Nat) (w : World) (h : Bk w g 41 #[.bool s1, .slice A1 n1 c1, .bool t1, .slice B1 m1 d1, .bool s2, .slice A2 n2 c2, .bool t2, .slice B2 m2 d2, .bool s3, .slice A3 n3 c3, .bool t3, .slice B3 m3 d3]) :
    Calls Tryz.prog 23 #[.slice (some ⟨g, 0, none⟩) 3 3] w fun e w' => w = w' ∧ e = .returned (.bool ((decide (n1 ≤ 3) && decide (m1 ≤ 3)) && ((decide (n2 ≤ 3) && decide (m2 ≤ 3)) && (decide (n3 ≤ 3) && decide (m3 ≤ 3))))) := by
  have og := h.lt
  have e1 : w.cell? ⟨g, 1, none⟩ = some (.slice A1 n1 c1) := by simpa using h.cell 1
  have e2 : w.cell? ⟨g, 3, none⟩ = some (.slice B1 m1 d1) := by simpa using h.cell 3
  have e3 : w.cell? ⟨g, 5, none⟩ = some (.slice A2 n2 c2) := by simpa using h.cell 5
  have e4 : w.cell? ⟨g, 7, none⟩ = some (.slice B2 m2 d2) := by simpa using h.cell 7
  have e5 : w.cell? ⟨g, 9, none⟩ = some (.slice A3 n3 c3) := by simpa using h.cell 9
  have e6 : w.cell? ⟨g, 11, none⟩ = some (.slice B3 m3 d3) := by simpa using h.cell 11
  clear h
  by_cases q1 : n1 ≤ 3
  · have r1 : ¬ (3 : Int) < (n1 : Int) := by omega
    by_cases q2 : m1 ≤ 3
    · have r2 : ¬ (3 : Int) < (m1 : Int) := by omega
      by_cases q3 : n2 ≤ 3
      · have r3 : ¬ (3 : Int) < (n2 : Int) := by omega
        by_cases q4 : m2 ≤ 3
        · have r4 : ¬ (3 : Int) < (m2 : Int) := by omega
          by_cases q5 : n3 ≤ 3
          · have r5 : ¬ (3 : Int) < (n3 : Int) := by omega
            by_cases q6 : m3 ≤ 3
            · have r6 : ¬ (3 : Int) < (m3 : Int) := by omega
              (
                  go_enter Tryz.func23, Tryz.ntmps23
                  go_wp2
                  refine wp_loop_rounds 4 ?_
                  rw [rounds_succ]
                  go_wp2
                  all_goals (try (rw [rounds_succ]; go_wp2))
                  all_goals (try (rw [rounds_succ]; go_wp2))
                  all_goals (try (rw [rounds_succ]; go_wp2))
                  go_ret
                  exact ⟨rfl, ret_boolI (by simp [*] <;> omega)⟩)
            · have r6 : (3 : Int) < (m3 : Int) := by omega
              (
                  go_enter Tryz.func23, Tryz.ntmps23
                  go_wp2
                  refine wp_loop_rounds 4 ?_
                  rw [rounds_succ]
                  go_wp2
                  all_goals (try (rw [rounds_succ]; go_wp2))
                  all_goals (try (rw [rounds_succ]; go_wp2))
                  all_goals (try (rw [rounds_succ]; go_wp2))
                  go_ret
                  exact ⟨rfl, ret_boolI (by simp [*] <;> omega)⟩)
          · have r5 : (3 : Int) < (n3 : Int) := by omega
            (
                go_enter Tryz.func23, Tryz.ntmps23
                go_wp2
                refine wp_loop_rounds 4 ?_
                rw [rounds_succ]
                go_wp2
                all_goals (try (rw [rounds_succ]; go_wp2))
                all_goals (try (rw [rounds_succ]; go_wp2))
                all_goals (try (rw [rounds_succ]; go_wp2))
                go_ret
                exact ⟨rfl, ret_boolI (by simp [*] <;> omega)⟩)
        · have r4 : (3 : Int) < (m2 : Int) := by omega
          (
              go_enter Tryz.func23, Tryz.ntmps23
              go_wp2
              refine wp_loop_rounds 4 ?_
              rw [rounds_succ]
              go_wp2
              all_goals (try (rw [rounds_succ]; go_wp2))
              all_goals (try (rw [rounds_succ]; go_wp2))
              all_goals (try (rw [rounds_succ]; go_wp2))
              go_ret
              exact ⟨rfl, ret_boolI (by simp [*] <;> omega)⟩)
      · have r3 : (3 : Int) < (n2 : Int) := by omega
        (
            go_enter Tryz.func23, Tryz.ntmps23
            go_wp2
            refine wp_loop_rounds 4 ?_
            rw [rounds_succ]
            go_wp2
            all_goals (try (rw [rounds_succ]; go_wp2))
            all_goals (try (rw [rounds_succ]; go_wp2))
            all_goals (try (rw [rounds_succ]; go_wp2))
            go_ret
            exact ⟨rfl, ret_boolI (by simp [*] <;> omega)⟩)
    · have r2 : (3 : Int) < (m1 : Int) := by omega
      (
          go_enter Tryz.func23, Tryz.ntmps23
          go_wp2
          refine wp_loop_rounds 4 ?_
          rw [rounds_succ]
          go_wp2
          all_goals (try (rw [rounds_succ]; go_wp2))
          all_goals (try (rw [rounds_succ]; go_wp2))
          all_goals (try (rw [rounds_succ]; go_wp2))
          go_ret
          exact ⟨rfl, ret_boolI (by simp [*] <;> omega)⟩)
  · have r1 : (3 : Int) < (n1 : Int) := by omega
    (
        go_enter Tryz.func23, Tryz.ntmps23
        go_wp2
        refine wp_loop_rounds 4 ?_
        rw [rounds_succ]
        go_wp2
        all_goals (try (rw [rounds_succ]; go_wp2))
        all_goals (try (rw [rounds_succ]; go_wp2))
        all_goals (try (rw [rounds_succ]; go_wp2))
        go_ret
        exact ⟨rfl, ret_boolI (by simp [*] <;> omega)⟩)

end Go.Proofs.YtgfbanlefkajhaaGreat
