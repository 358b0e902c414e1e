/- Walks: Grow of nil, Concat of two slices. -/
import Derived.Test.YtkcbfkflkepfeaaLensB
namespace Go.Proofs.Ytkcbfkflkepfeaa
open Go.RowKit

theorem growNil_any (n : Nat) (w : World) (h0 : 0 < n) (hn : n ≤ 1000000) :
    Calls Try.prog 71 #[.slice none 0 0, .int .i64 n] w fun e w' => Below w.heap.size w w' ∧ ∃ v, e = .returned v ∧ w'.ownsRow w.heap.size 3 1 v 0 [] := by
  obtain ⟨i0, hi0, hz0, hz1, hz2⟩ := info_parts info_int
  refine (Try.slices_Grow_nil i0 _ hi0 hz0 (by omega) n w h0 (by rw [hz2]; omega) (by omega)).mono ?_
  rintro e w' ⟨rfl, rfl⟩
  have hge := grownCap_ge w (0 + n) 0 3
  have hle := grownCap_le_maxLen w (0 + n) 0 3 (by unfold maxLen; omega)
  refine ⟨Below.alloc (Below.drew (Below.refl _ _)) (Nat.le_refl _) _, _, rfl, by simp, .inr ⟨_, _, _, rfl, Nat.le_refl _, Bk.alloc_ _ _ _, Nat.zero_le _, hle, ?_, by simp⟩⟩
  have hzc : (Value.int .i64 0).cells.size = 1 := rfl
  rw [Nat.zero_add] at hge
  simp [size_zeroCells, hzc]
  try omega

theorem grown_below {w wd w' : World} {e size n : Nat} {v : Value} {xs : List Value} (hb : Below w.heap.size w wd) (hown : wd.ownsRow w.heap.size e size v n xs) (hg : wd.grownBy w' v.ownBlock) : Below w.heap.size w w' :=
  hb.grown hg hb.size (fun g hg => (hown.lt g hg).1)

set_option maxRecDepth 100000 in
set_option maxHeartbeats 4000000 in
theorem concat_any (A A2 : Option Addr) (n c n2 c2 : Nat) (s : Sys) (w : World) (h : SysAt w w.heap.size A n c A2 n2 c2 s) (g m : Nat) (t : TypeId) (hg : Bk w g t #[.slice A n c, .slice A2 n2 c2]) (h0 : 1 ≤ n) (h1 : n ≤ 1000) (h2 : n2 ≤ 1000) :
    Calls Try.prog 61 #[.slice (some ⟨g, 0, none⟩) 2 m] w fun e w' => Below w.heap.size w w' ∧ ∃ v, e = .returned v ∧ w'.ownsRow w.heap.size 3 1 v (n + n2) (i64s s.all) := by
  have hcapA := h.a.nums.cap; have hmaxA := h.a.nums.max; have hcapB := h.b.nums.cap; have hmaxB := h.b.nums.max; have HLA := Lib.hid h.a.nums.len; have HLB := Lib.hid h.b.nums.len; have H : Hid (∀ w', Below w.heap.size w w' → SysAt w' w.heap.size A n c A2 n2 c2 s) := fun w' hb => h.below hb (Nat.le_refl _) (Nat.le_refl _); have HS : Hid (∀ w', Below w.heap.size w w' → SysAt w' w'.heap.size A n c A2 n2 c2 s) := fun w' hb => h.below hb (Nat.le_refl _) hb.size; clear h
  have HG : Hid (∀ w', Below w.heap.size w w' → Bk w' g t #[.slice A n c, .slice A2 n2 c2]) := fun w' hb => hg.below hb hg.lt
  have HB0 : Hid (Below w.heap.size w w) := Lib.hid (Below.refl _ _)
  have og := hg.lt
  obtain ⟨g0, g1⟩ := hg.pair
  obtain ⟨i0, hi0, hz0, hz1, hz2⟩ := info_parts info_int
  have HI0 := Lib.hid hi0
  have HZ0 := Lib.hid hz0
  have HZ1 := Lib.hid hz1
  have HZ2 := Lib.hid hz2
  have hn : ¬ n = 0 := by omega
  obtain ⟨N, hN⟩ : ∃ N : Nat, N = n + n2 := ⟨_, rfl⟩
  have hw1 : IntKind.i64.wrap (0 + (n : Int)) = (n : Int) := by rw [IntWalk.i64_in _ (by omega)]; omega
  have hw2 : IntKind.i64.wrap ((n : Int) + (n2 : Int)) = (N : Int) := by rw [IntWalk.i64_in _ (by omega)]; omega
  have HN := Lib.hid hN
  have hN1 : 1 ≤ N := by omega
  have hN2 : N ≤ 2000 := by omega
  obtain ⟨a, rfl⟩ : ∃ a, A = some a := by
    rcases A with _ | a
    · have := (H.out _ HB0.out).a.nil rfl; omega
    · exact ⟨a, rfl⟩
  clear hN hg hi0 hz0 hz1 hz2
  go_enter Try.func61, Try.ntmps61
  go_wp2
  refine wp_loop_rounds 3 ?_
  rw [rounds_succ]
  go_wp2
  rw [rounds_succ]
  go_wp2
  rw [rounds_succ]
  go_wp2_with (go_at_call 71; refine (growNil_any N _ (by omega) (by omega)).mono ?_; rintro e wd ⟨hbd, v0, rfl, hown0⟩; have HO0 := Lib.hid hown0; have HB1 := Lib.hid hbd; obtain ⟨e0, e1⟩ := (HG.out _ HB1.out).pair; have og1 := HB1.out.size; clear hown0 hbd)
  refine wp_loop_rounds 3 ?_
  rw [rounds_succ]
  go_wp2_with (at_builtin; refine wpList_append_own_at _ rfl _ _ _ rfl w.heap.size 3 i0 _ 1 8 Try.underlying22 HI0.out HZ0.out HZ1.out HZ2.out rfl (by omega) _ _ _ rfl HO0.out a n c (i64s s.bays) rfl (by rw [i64s_length, HLA.out]; omega) ((H.out _ HB1.out).a.cells_at) (i64s_one _) (by unfold maxLen; omega) (by omega) (HB1.out.size) ?_; intro v1 w1 hown1 hg1 _ _)
  have HO1 := Lib.hid hown1
  have HB2 := Lib.hid (grown_below HB1.out HO0.out hg1)
  clear hown1 hg1 e0 e1
  obtain ⟨e0, e1⟩ := (HG.out _ HB2.out).pair
  have og2 := HB2.out.size
  go_wp2
  rw [rounds_succ]
  rcases A2 with _ | a2
  · obtain ⟨rfl, rfl⟩ := (H.out _ HB0.out).b.nil rfl
    have hl2 : s.boards = [] := List.eq_nil_of_length_eq_zero HLB.out
    go_wp2_with (at_builtin; refine wpList_append_own_none rfl _ _ _ rfl w.heap.size 3 i0 1 Try.underlying22 HI0.out _ _ _ rfl HO1.out rfl ?_)
    rw [rounds_succ]
    go_wp2
    go_ret
    refine ⟨HB2.out, _, rfl, ?_⟩
    have := HO1.out
    unfold Sys.all
    rw [hl2]
    simpa using this
  · go_wp2_with (at_builtin; refine wpList_append_own_at _ rfl _ _ _ rfl w.heap.size 3 i0 _ 1 8 Try.underlying22 HI0.out HZ0.out HZ1.out HZ2.out rfl (by omega) _ _ _ rfl HO1.out a2 n2 c2 (i64s s.boards) rfl (by rw [i64s_length, HLB.out]; omega) ((H.out _ HB2.out).b.cells_at) (i64s_one _) (by unfold maxLen; omega) (by omega) (HB2.out.size) ?_; intro v1 w1 hown1 hg1 _ _)
    have HO2 := Lib.hid hown1
    have HB3 := Lib.hid (grown_below HB2.out HO1.out hg1)
    clear hown1 hg1 e0 e1
    obtain ⟨e0, e1⟩ := (HG.out _ HB3.out).pair
    have og3 := HB3.out.size
    go_wp2
    rw [rounds_succ]
    go_wp2
    go_ret
    refine ⟨HB3.out, _, rfl, ?_⟩
    have := HO2.out
    unfold Sys.all
    rw [i64s_append]
    simpa using this

end Go.Proofs.Ytkcbfkflkepfeaa
