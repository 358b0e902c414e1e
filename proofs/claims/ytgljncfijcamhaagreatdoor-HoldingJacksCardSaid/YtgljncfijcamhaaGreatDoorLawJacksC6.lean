/- The walk of HoldingJacks: all inputs. -/
import Derived.Test.YtgljncfijcamhaaGreatDoorLawJacksB6
namespace Go.Proofs.YtgljncfijcamhaaGreatDoor
open Go.RowKit

theorem gErr_zero6 {b1 b2 b3 b4 b5 b6 b7 : Bool} (h : gErr b1 b2 b3 b4 b5 b6 b7 = 0) : b1 = true ∧ b2 = true ∧ b3 = true ∧ b4 = true ∧ b5 = true ∧ b6 = true ∧ b7 = true := by
  cases b1 <;> cases b2 <;> cases b3 <;> cases b4 <;> cases b5 <;> cases b6 <;> cases b7 <;> first | exact ⟨rfl, rfl, rfl, rfl, rfl, rfl, rfl⟩ | (exfalso; revert h; decide)
theorem gridErr_sizes6 {f : Int} {a lv : List Int} (h : gridErr f a lv = 0) : 1 ≤ a.length ∧ a.length ≤ 60 ∧ 1 ≤ lv.length ∧ lv.length ≤ 30 := by
  obtain ⟨-, h2, h3, -⟩ := gErr_zero6 h
  simp only [inR, decide_eq_true_eq] at h2 h3
  omega
theorem grFrom_zero : ∀ {pv : Option Int} {l : List Gr}, grFrom pv l = 0 → ∀ g ∈ l, -1000000 ≤ g.c ∧ g.c ≤ 1000000
  | _, [], _, g, hg => by cases hg
  | pv, x :: r, h, g, hg => by
    rw [grFrom_cons] at h
    split at h
    · rename_i h1
      split at h
      · rcases List.mem_cons.1 hg with rfl | h2
        · simp [ok3, inR] at h1; omega
        · exact grFrom_zero h g h2
      · cases h
    · cases h
theorem groundErr_zero {l : List Gr} (h : groundErr l = 0) : l.length ≤ 20 ∧ ∀ g ∈ l, -1000000 ≤ g.c ∧ g.c ≤ 1000000 := by
  unfold groundErr at h
  split at h
  · rename_i h1
    refine ⟨?_, grFrom_zero h⟩
    simp [inR] at h1; omega
  · cases h
theorem stTo_in {l : List Gr} {a : List Int} : ∀ {k : Nat} {gs : List Gr}, stTo l a k = some gs → ∀ g ∈ gs, g ∈ l
  | 0, gs, h, g, hg => by simp [stTo] at h; subst h; cases hg
  | k + 1, gs, h, g, hg => by
    simp only [stTo] at h
    cases h1 : stTo l a k with
    | none => rw [h1] at h; simp at h
    | some r =>
      rw [h1] at h
      cases h2 : stepIx (a.getD k 0) l with
      | none => rw [h2] at h; simp at h
      | some j =>
        rw [h2] at h
        simp only [Option.map_some, Option.bind_some, Option.some.injEq] at h
        subst h
        rcases List.mem_append.1 hg with h3 | h3
        · exact stTo_in h1 g h3
        · have hj := stepIx_lt h2
          rw [List.mem_singleton] at h3
          rw [h3, List.getD_eq_getElem?_getD, List.getElem?_eq_getElem hj]
          exact List.getElem_mem hj
theorem sts_bd {l : List Gr} {a : List Int} (h : ∀ g ∈ l, -1000000 ≤ g.c ∧ g.c ≤ 1000000) : ∀ gs, sts l a = some gs → allIn (-1000000) 1000000 (gs.map (·.c)) = true := fun gs hs => by
  apply List.all_eq_true.2
  intro x hx
  obtain ⟨g, hg, rfl⟩ := List.mem_map.1 hx
  simpa using h g (stTo_in hs g hg)
theorem jackErr_zero {lo hi so : Int} (h : jackErr lo hi so = 0) : (0 ≤ so ∧ so ≤ 10000) ∧ (0 ≤ lo ∧ lo ≤ 10000) := by
  unfold jackErr at h
  split at h
  · rename_i h1
    simp [inR] at h1
    omega
  · cases h
theorem htErr_zero {G E J : Int} (h : htErr G E J = 0) : G = 0 ∧ E = 0 ∧ J = 0 := by
  unfold htErr at h
  by_cases hg : G = 0
  · by_cases he : E = 0
    · refine ⟨hg, he, ?_⟩
      rwa [if_neg (by simp [hg]), if_neg (by simp [he])] at h
    · rw [if_neg (by simp [hg]), if_pos he] at h
      exact absurd h he
  · rw [if_pos hg] at h
    exact absurd h hg
set_option maxHeartbeats 4000000 in
theorem lawJacks_any (f : Int) (A A2 T : Option Addr) (n c m c2 k0 ct : Nat) (lo hi so D : Int) (a lv : List Int) (l : List Gr) (w : World) (ha : Nums w w.heap.size A n c a) (hl : Nums w w.heap.size A2 m c2 lv) (hg : Grs w w.heap.size T k0 ct l) :
    Calls Tryz.prog 5 #[.agg #[.int .i64 f, .slice A n c, .slice A2 m c2], .agg #[.slice T k0 ct, .int .i64 lo, .int .i64 hi, .int .i64 so], .int .i64 D] w fun e w' => Below w.heap.size w w' ∧ e = .returned (.bool true) := by
  have hlenA := ha.len
  have hlenB := hl.len
  have hlenG := hg.len
  obtain ⟨G, hG⟩ : ∃ G, gridErr f a lv = G := ⟨_, rfl⟩
  obtain ⟨E, hE⟩ : ∃ E, groundErr l = E := ⟨_, rfl⟩
  obtain ⟨J, hJ⟩ : ∃ J, jackErr lo hi so = J := ⟨_, rfl⟩
  have c1 : ∀ w', Below w.heap.size w w' → Calls Tryz.prog 80 #[.agg #[.int .i64 f, .slice A n c, .slice A2 m c2]] w' fun e w'' => Below w'.heap.size w' w'' ∧ e = .returned (.int .i64 G) := fun w' hb => by
    rw [← hG]; exact checkGrid_any f A A2 n c m c2 a lv w' (ha.below hb (Nat.le_refl _) hb.size) (hl.below hb (Nat.le_refl _) hb.size)
  have r1 : ∀ w', Below w.heap.size w w' → Calls Tryz.prog 43 #[.agg #[.int .i64 f, .slice A n c, .slice A2 m c2]] w' fun e w'' => Below w'.heap.size w' w'' ∧ e = .returned (.int .i64 G) := fun w' hb => by
    rw [← hG]; exact refCheckGrid_any f A A2 n c m c2 a lv w' (ha.below hb (Nat.le_refl _) hb.size) (hl.below hb (Nat.le_refl _) hb.size)
  have cc : ∀ w', Below w.heap.size w w' → Calls Tryz.prog 105 #[.slice T k0 ct] w' fun e w'' => Below w'.heap.size w' w'' ∧ e = .returned (.int .i64 E) := fun w' hb => by
    rw [← hE]; exact checkGround_any T k0 ct l w' (hg.below hb (Nat.le_refl _) hb.size)
  have rr : ∀ w', Below w.heap.size w w' → Calls Tryz.prog 57 #[.slice T k0 ct] w' fun e w'' => Below w'.heap.size w' w'' ∧ e = .returned (.int .i64 E) := fun w' hb => by
    rw [← hE]; exact refCheckGround_any T k0 ct l w' (hg.below hb (Nat.le_refl _) hb.size)
  have rj : ∀ w', Calls Tryz.prog 58 #[.agg #[.int .i64 lo, .int .i64 hi, .int .i64 so]] w' fun e w'' => Below w'.heap.size w' w'' ∧ e = .returned (.int .i64 J) := fun w' => by
    rw [← hJ]; exact refJack_any lo hi so w'
  by_cases hX : htErr G E J = 0
  · obtain ⟨rfl, rfl, rfl⟩ := htErr_zero hX
    obtain ⟨hn1, hn, hm1, hm⟩ := gridErr_sizes6 hG
    rw [hlenA] at hn1 hn
    rw [hlenB] at hm1 hm
    obtain ⟨hk, hgb⟩ := groundErr_zero hE
    rw [hlenG] at hk
    obtain ⟨hso, hlo⟩ := jackErr_zero hJ
    have ct' := fun (w' : World) (hb : Below w.heap.size w w') => tops_ok f A A2 T n c m c2 k0 ct lo hi so a l w' (ha.below hb (Nat.le_refl _) hb.size) (hg.below hb (Nat.le_refl _) hb.size) hn hJ (sts_bd hgb) (fun w'' hb' => c1 w'' (hb.trans (hb'.mono hb.size))) (fun w'' hb' => cc w'' (hb.trans (hb'.mono hb.size)))
    have ch := fun (w' : World) (hb : Below w.heap.size w w') => refHts_ok f A A2 T n c m c2 k0 ct lo hi so a l w' (ha.below hb (Nat.le_refl _) hb.size) (hg.below hb (Nat.le_refl _) hb.size) hn (fun w'' hb' => r1 w'' (hb.trans (hb'.mono hb.size))) (fun w'' hb' => rr w'' (hb.trans (hb'.mono hb.size))) rj
    cases hh : hts l a with
    | none =>
      rw [hh] at ct' ch
      have ct2 : ∀ w', Below w.heap.size w w' → Calls Tryz.prog 55 #[.agg #[.int .i64 f, .slice A n c, .slice A2 m c2], .slice T k0 ct, .agg #[.int .i64 lo, .int .i64 hi, .int .i64 so]] w' fun e w'' => Below w'.heap.size w' w'' ∧ e = .returned (.tuple #[.slice none 0 0, .int .i64 6]) := fun w' hb => (ct' w' hb).mono fun e w'' h => ⟨h.1, by rcases h.2 with ⟨-, h⟩ | ⟨_, _, _, h, -⟩; exact h; cases h⟩
      exact lawJacks_err f A A2 T n c m c2 k0 ct lo hi so D 6 w (by decide)
        (fun w' hb => datum_err f A A2 T n c m c2 k0 ct lo hi so 6 w' (by decide) (fun w'' hb' => ct2 w'' (hb.trans (hb'.mono hb.size))))
        (fun w' hb => jacks_err f A A2 T n c m c2 k0 ct lo hi so D 6 w' (by decide) (fun w'' hb' => ct2 w'' (hb.trans (hb'.mono hb.size))))
        (fun w' hb => (ch w' hb).mono fun e w'' h => ⟨h.1, by rcases h.2 with ⟨-, h⟩ | ⟨_, _, _, h, -⟩; exact h; cases h⟩)
    | some hs =>
      have hlen : hs.length = n := by rw [htsTo_len hh, hlenA]
      have bh : allIn (-1000000) 1000000 hs = true := by
        have h1 := hts_st l a
        rw [hh] at h1
        cases hst : sts l a with
        | none => rw [hst] at h1; cases h1
        | some gs =>
          rw [hst] at h1
          simp only [Option.map_some, Option.some.injEq] at h1
          rw [h1]
          exact sts_bd hgb gs hst
      rw [hh] at ct' ch
      exact lawJacks_ok f A A2 T n c m c2 k0 ct lo hi so D hs w hn1 hn (by omega) (by omega) hlen bh hso hlo
        (fun w' hb => (ct' w' hb).mono fun e w'' h => ⟨h.1, by rcases h.2 with ⟨h, -⟩ | ⟨_, A', c', h, he, hN⟩; cases h; cases h; exact ⟨A', c', he, hN⟩⟩)
        (fun w' hb => (ch w' hb).mono fun e w'' h => ⟨h.1, by rcases h.2 with ⟨h, -⟩ | ⟨_, A', c', h, he, hN⟩; cases h; cases h; exact ⟨A', c', he, hN⟩⟩)
  · have ct2 : ∀ w', Below w.heap.size w w' → Calls Tryz.prog 55 #[.agg #[.int .i64 f, .slice A n c, .slice A2 m c2], .slice T k0 ct, .agg #[.int .i64 lo, .int .i64 hi, .int .i64 so]] w' fun e w'' => Below w'.heap.size w' w'' ∧ e = .returned (.tuple #[.slice none 0 0, .int .i64 (htErr G E J)]) := fun w' hb => by
      have := tops_bad f A A2 T n c m c2 k0 ct lo hi so G E w' (fun w'' hb' => c1 w'' (hb.trans (hb'.mono hb.size))) (fun w'' hb' => cc w'' (hb.trans (hb'.mono hb.size))) (by rw [hJ]; exact hX)
      rwa [hJ] at this
    exact lawJacks_err f A A2 T n c m c2 k0 ct lo hi so D (htErr G E J) w hX
      (fun w' hb => datum_err f A A2 T n c m c2 k0 ct lo hi so (htErr G E J) w' hX (fun w'' hb' => ct2 w'' (hb.trans (hb'.mono hb.size))))
      (fun w' hb => jacks_err f A A2 T n c m c2 k0 ct lo hi so D (htErr G E J) w' hX (fun w'' hb' => ct2 w'' (hb.trans (hb'.mono hb.size))))
      (fun w' hb => refHts_bad f A A2 T n c m c2 k0 ct lo hi so G E J w' (fun w'' hb' => r1 w'' (hb.trans (hb'.mono hb.size))) (fun w'' hb' => rr w'' (hb.trans (hb'.mono hb.size))) rj hX)

end Go.Proofs.YtgljncfijcamhaaGreatDoor
