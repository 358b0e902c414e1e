/- The walks of points and few; equality of sides. -/
import Derived.Test.YtbfbjpnmgcpjlaaRefCorners
import Derived.Maps.AppendAt
import Derived.Laws.AppendOwnNone
import Derived.Laws.StructEq
namespace Go.Proofs.Ytbfbjpnmgcpjlaa
open Go.RowKit

theorem pcells_one (l : List (Int × Int)) : ∀ u ∈ pcells l, u.oneCell' = true := by
  induction l with
  | nil => simp [pcells]
  | cons p l ih =>
    intro u hu
    simp only [pcells, List.mem_cons] at hu
    rcases hu with rfl | rfl | hu
    · rfl
    · rfl
    · exact ih u hu
theorem add_plain (b o j : Nat) : (⟨b, o, none⟩ : Addr).add j = ⟨b, o + j, none⟩ := by
  unfold Addr.add
  split
  · simp [*]
  · rfl
theorem info_point : (Try.prog.info? 57).map (fun i => (i.zero, i.size, i.bytes)) = some (some (.agg #[.int .i64 0, .int .i64 0]), 2, 16) := by kernel_rfl

theorem few_any (A : Option Addr) (n c : Nat) (w : World) (hn : n ≤ 9223372036854775807) : Calls Try.prog 19 #[.slice A n c] w fun e w' => w = w' ∧ e = .returned (.bool (decide (n ≤ 45))) := by
  by_cases h : n ≤ 45
  all_goals
    go_enter Try.func19, Try.ntmps19
    go_wp2
    go_ret
    exact ⟨rfl, ret_bool (by simp; omega)⟩

set_option maxHeartbeats 1000000 in
theorem points_any (A : Option Addr) (n c : Nat) (l : List (Int × Int)) (w : World) (h : Pts w w.heap.size A n c l) (hA : A = none → n = 0 ∧ c = 0) (hn : n ≤ 1000000) :
    Calls Try.prog 21 #[.slice A n c] w fun e w' => Below w.heap.size w w' ∧ ∃ A' c', e = .returned (.slice A' n c') ∧ Pts w' w'.heap.size A' n c' l := by
  have hcap := h.cap
  have hmax := h.max
  have hlen := h.len
  obtain ⟨i0, hi0, hz0, hz1, hz2⟩ := info_parts info_point
  have HI0 := Lib.hid hi0
  have HZ0 := Lib.hid hz0
  have HZ1 := Lib.hid hz1
  have HZ2 := Lib.hid hz2
  have HL := Lib.hid hlen
  have HOW := Lib.hid (World.ownsRow_lit (base := w.heap.size) (e := 57) (size := 2) w #[] 0 (Nat.le_refl _) (by unfold maxLen; omega) (by simp))
  clear hi0 hz0 hz1 hz2
  match A with
  | none =>
    obtain ⟨rfl, rfl⟩ := hA rfl
    have hl : l = [] := List.eq_nil_of_length_eq_zero hlen
    subst hl
    clear hA h hlen hcap hmax
    go_enter Try.func21, Try.ntmps21
    go_wp2_with (at_builtin; refine wpList_append_own_none rfl _ _ _ rfl w.heap.size 57 i0 2 Try.underlying40 HI0.out _ 0 _ rfl HOW.out rfl ?_)
    go_ret
    exact ⟨(by repeat (first | with_reducible exact Below.refl _ _ | with_reducible assumption | with_reducible refine Below.drew ?_ | with_reducible refine Below.drewN ?_ _ | with_reducible refine Below.alloc2 ?_ _ | with_reducible refine Below.alloc ?_ (by first | omega | (simp <;> omega)) _ | with_reducible refine Below.setCell ?_ (by first | omega | (simp <;> omega)) _ | with_reducible refine Below.step2 (by with_reducible assumption) ?_ | with_reducible refine Below.step (by with_reducible assumption) ?_ (by first | omega | (simp <;> omega)))), _, _, rfl, ⟨Sl.of_own HOW.out |>.elim fun A h => by
      obtain ⟨c, e, hs⟩ := h
      injection e with e1 e2 e3
      subst e1; subst e3
      exact hs⟩⟩
  | some a =>
    have hcells : ∀ j u, (pcells l)[j]? = some u → w.cell? (a.add j) = some u := by
      intro j u hu
      have hp : 0 < n := by
        rcases Nat.eq_zero_or_pos n with h0 | h0
        · have : l = [] := List.eq_nil_of_length_eq_zero (by omega)
          subst this
          simp [pcells] at hu
        · exact h0
      obtain ⟨b, o, e, hb, hc⟩ := h.sl.cells hp
      obtain rfl : a = ⟨b, o, none⟩ := Option.some.inj e
      have := hc j u hu
      rwa [add_plain]
    have hblk : ∀ j, j < (pcells l).length → (a.add j).block < w.heap.size := by
      intro j hj
      exact World.block_lt_of_cell? w _ (hcells j _ (List.getElem?_eq_getElem hj))
    have HC := Lib.hid (fun (o : Obj) => (fun j u hu => (World.cell?_alloc_lt w o (a.add j) (hblk j (List.getElem?_eq_some_iff.1 hu).1)).trans (hcells j u hu) : ∀ j u, (pcells l)[j]? = some u → (w.alloc o).cell? (a.add j) = some u))
    clear hcells hblk hA h hlen
    go_enter Try.func21, Try.ntmps21
    go_wp2_with (at_builtin; refine wpList_append_own_at _ rfl _ _ _ rfl w.heap.size 57 i0 _ 2 16 Try.underlying40 HI0.out HZ0.out HZ1.out HZ2.out rfl (by omega) _ 0 _ rfl HOW.out a n c (pcells l) rfl (by rw [pcells_length, HL.out]) (HC.out _) (pcells_one l) (by unfold maxLen; omega) (by omega) (by simp) ?_; intro v1 w1 hown1 hg1 _ _)
    obtain ⟨A', c', rfl, hs⟩ := Sl.of_own hown1
    have HS := Lib.hid hs
    have HG := Lib.hid hg1
    clear hs hg1 hown1
    go_wp2
    go_ret
    refine ⟨((Below.refl _ _).alloc (Nat.le_refl _) _).grown HG.out (by simp) (fun g hg => by have hg' : some w.heap.size = some g := hg; injection hg' with hg'; omega), A', c', by simp, ⟨?_⟩⟩
    simpa using HS.out

theorem neq_wall (a b c d e f : Int) (w : World) : (binOp .neq 59 (.agg #[.int .i64 a, .int .i64 b, .int .i64 c, .int .i64 d, .int .i64 e, .int .i64 f]) (.agg #[.int .i64 a, .int .i64 b, .int .i64 c, .int .i64 d, .int .i64 e, .int .i64 f])).run Try.prog w = .ok (.bool false) w := by
  go_simp

end Go.Proofs.Ytbfbjpnmgcpjlaa
