/- Walks: few, Ints, Plain. -/
import Derived.Test.YtkcbfkflkepfeaaTableOf
import Derived.Deep.RegionWith
import Derived.RegionTactic
namespace Go.Proofs.Ytkcbfkflkepfeaa
open Go.RowKit

set_option maxHeartbeats 1000000 in
theorem few_any (A A2 : Option Addr) (n c n2 c2 : Nat) (s : Sys) (w : World) (h : SysAt w w.heap.size A n c A2 n2 c2 s) :
    Calls Try.prog 9 #[.agg #[.slice A n c, .slice A2 n2 c2, .int .i64 s.width, .int .i64 s.gap, .int .i64 s.lift]] w fun e w' => Below w.heap.size w w' ∧ e = .returned (.bool (decide (n ≤ 12 ∧ n2 ≤ 12))) := by
  have hcapA := h.a.nums.cap; have hmaxA := h.a.nums.max; have hcapB := h.b.nums.cap; have hmaxB := h.b.nums.max; have HLA := Lib.hid h.a.nums.len; have HLB := Lib.hid h.b.nums.len; have H : Hid (∀ w', Below w.heap.size w w' → SysAt w' w.heap.size A n c A2 n2 c2 s) := fun w' hb => h.below hb (Nat.le_refl _) (Nat.le_refl _); have HS : Hid (∀ w', Below w.heap.size w w' → SysAt w' w'.heap.size A n c A2 n2 c2 s) := fun w' hb => h.below hb (Nat.le_refl _) hb.size; clear h
  by_cases h1 : n ≤ 12 <;> by_cases h2 : n2 ≤ 12
  all_goals
    go_enter Try.func9, Try.ntmps9
    go_wp2
    go_ret
    exact ⟨(by repeat (first | with_reducible exact Below.refl _ _ | with_reducible assumption | with_reducible refine Below.drew ?_ | with_reducible refine Below.drewN ?_ _ | with_reducible refine Below.alloc2 ?_ _ | with_reducible refine Below.alloc ?_ (by first | omega | (simp <;> omega)) _ | with_reducible refine Below.setCell ?_ (by first | omega | (simp <;> omega)) _ | with_reducible refine Below.step2 (by with_reducible assumption) ?_ | with_reducible refine Below.step (by with_reducible assumption) ?_ (by first | omega | (simp <;> omega)))), ret_bool (by first | (simp [h1, h2]; done) | (simp [h1, h2]; omega))⟩

set_option maxHeartbeats 2000000 in
theorem ints_any (A B : Option Addr) (n c d : Nat) (l l2 : List Int) (w : World) (h : Nums w w.heap.size A n c l) (h2 : Nums w w.heap.size B n d l2) (he : l = l2) :
    Calls Try.prog 29 #[.slice A n c, .slice B n d] w fun e w' => Below w.heap.size w w' ∧ e = .returned (.bool true) := by
  have hcap := h.cap
  have hmax := h.max
  have hcap2 := h2.cap
  have hmax2 := h2.max
  subst he
  have H : Hid (∀ w', Below w.heap.size w w' → Nums w' w.heap.size A n c l) := fun w' hb => h.below hb (Nat.le_refl _) (Nat.le_refl _)
  have H2 : Hid (∀ w', Below w.heap.size w w' → Nums w' w.heap.size B n d l) := fun w' hb => h2.below hb (Nat.le_refl _) (Nat.le_refl _)
  clear h h2
  go_enter Try.func29, Try.ntmps29
  go_wp2
  go_loopw [5] (fun i wr => ∃ k : Nat, k ≤ n ∧ i = .int .i64 k ∧ Below w.heap.size w wr) (fun i _ => n - (intOf i).toNat)
  case atStart => exact ⟨0, Nat.zero_le _, rfl, Below.refl _ _⟩
  case round =>
    obtain ⟨k, hk, rfl, hb⟩ := hrel
    have HB := Lib.hid hb
    have ow := hb.size
    by_cases hlt : k < n
    · obtain ⟨b, o, x, rfl, hbb, hx, c0⟩ := (H.out _ hb).at_ hlt
      obtain ⟨b', o', y, rfl, hbb', hy, c1⟩ := (H2.out _ hb).at_ hlt
      obtain rfl : x = y := Option.some.inj (hx.symm.trans hy)
      have ob : b < wr.heap.size := by omega
      have ob' : b' < wr.heap.size := by omega
      clear hb hx hy
      go_wp2
      go_quiet (fail)
      go_wp2
      go_roundw
      case rel =>
        have hb := HB.out
        exact ⟨k + 1, by omega, by go_num, (by repeat (first | with_reducible exact Below.refl _ _ | with_reducible assumption | with_reducible refine Below.drew ?_ | with_reducible refine Below.drewN ?_ _ | with_reducible refine Below.alloc2 ?_ _ | with_reducible refine Below.alloc ?_ (by first | omega | (simp <;> omega)) _ | with_reducible refine Below.setCell ?_ (by first | omega | (simp <;> omega)) _ | with_reducible refine Below.step2 (by with_reducible assumption) ?_ | with_reducible refine Below.step (by with_reducible assumption) ?_ (by first | omega | (simp <;> omega))))⟩
      case measure => simp [intOf]; omega
    · clear hb
      go_wp2
      go_ret
      exact ⟨HB.out, rfl⟩

def plainSys : Sys := ⟨[1000, 2500], [500], 700, 300, 2000⟩
set_option maxHeartbeats 2000000 in
theorem plain_any (w : World) :
    Calls Try.prog 35 #[] w fun e w' => Below w.heap.size w w' ∧ ∃ a b, e = .returned (.agg #[.slice (some ⟨a, 0, none⟩) 2 2, .slice (some ⟨b, 0, none⟩) 1 1, .int .i64 plainSys.width, .int .i64 plainSys.gap, .int .i64 plainSys.lift]) ∧ SysAt w' w'.heap.size (some ⟨a, 0, none⟩) 2 2 (some ⟨b, 0, none⟩) 1 1 plainSys := by
  go_enter Try.func35, Try.ntmps35
  go_wp2
  have k1 : Bk (((w.alloc (.cells #[.slice (some ⟨w.heap.size + 1, 0, none⟩) 2 2, .slice (some ⟨w.heap.size + 1 + 1, 0, none⟩) 1 1, .int .i64 700, .int .i64 300, .int .i64 2000] 24)).alloc (.cells #[.int .i64 1000, .int .i64 2500] 3)).alloc (.cells #[.int .i64 500] 3)) (w.heap.size + 1) 3 (i64s [1000, 2500]).toArray := by
    simp only [i64s, List.map]
    exact (by repeat (first | with_reducible assumption | with_reducible exact Bk.at_ (by first | (simp; done) | omega) | with_reducible refine Bk.alloc ?_ _ | with_reducible refine Bk.drew ?_ | with_reducible refine Bk.drewN ?_ _ | with_reducible refine Bk.step (by with_reducible assumption) ?_ (by first | omega | (simp <;> omega))))
  have k2 : Bk (((w.alloc (.cells #[.slice (some ⟨w.heap.size + 1, 0, none⟩) 2 2, .slice (some ⟨w.heap.size + 1 + 1, 0, none⟩) 1 1, .int .i64 700, .int .i64 300, .int .i64 2000] 24)).alloc (.cells #[.int .i64 1000, .int .i64 2500] 3)).alloc (.cells #[.int .i64 500] 3)) (w.heap.size + 1 + 1) 3 (i64s [500]).toArray := by
    simp only [i64s, List.map]
    exact (by repeat (first | with_reducible assumption | with_reducible exact Bk.at_ (by first | (simp; done) | omega) | with_reducible refine Bk.alloc ?_ _ | with_reducible refine Bk.drew ?_ | with_reducible refine Bk.drewN ?_ _ | with_reducible refine Bk.step (by with_reducible assumption) ?_ (by first | omega | (simp <;> omega))))
  refine bodyPost_ret (v := .agg #[.slice (some ⟨w.heap.size + 1, 0, none⟩) 2 2, .slice (some ⟨w.heap.size + 1 + 1, 0, none⟩) 1 1, .int .i64 700, .int .i64 300, .int .i64 2000]) (by simp [results, Try.results35, go_sem]) rfl
    ⟨(by repeat (first | with_reducible exact Below.refl _ _ | with_reducible assumption | with_reducible refine Below.drew ?_ | with_reducible refine Below.drewN ?_ _ | with_reducible refine Below.alloc2 ?_ _ | with_reducible refine Below.alloc ?_ (by first | omega | (simp <;> omega)) _ | with_reducible refine Below.setCell ?_ (by first | omega | (simp <;> omega)) _ | with_reducible refine Below.step2 (by with_reducible assumption) ?_ | with_reducible refine Below.step (by with_reducible assumption) ?_ (by first | omega | (simp <;> omega)))), _, _, rfl, ⟨Nums.of_bk k1 (by simp) rfl (Nat.le_refl _) (by omega), fun h => by cases h⟩, ⟨Nums.of_bk k2 (by simp) rfl (Nat.le_refl _) (by omega), fun h => by cases h⟩⟩

set_option maxHeartbeats 4000000 in
theorem copied_any (A A2 : Option Addr) (n c n2 c2 : Nat) (s : Sys) (w : World) (h : SysAt w w.heap.size A n c A2 n2 c2 s) (hn : n ≤ 1000) (hn2 : n2 ≤ 1000) :
    Calls Try.prog 12 #[.agg #[.slice A n c, .slice A2 n2 c2, .int .i64 s.width, .int .i64 s.gap, .int .i64 s.lift]] w fun e w' => Below w.heap.size w w' ∧ ∃ A' c' A2' c2', e = .returned (.agg #[.slice A' n c', .slice A2' n2 c2', .int .i64 s.width, .int .i64 s.gap, .int .i64 s.lift]) ∧ SysAt w' w'.heap.size A' n c' A2' n2 c2' s := by
  have hcapA := h.a.nums.cap; have hmaxA := h.a.nums.max; have hcapB := h.b.nums.cap; have hmaxB := h.b.nums.max; have HLA := Lib.hid h.a.nums.len; have HLB := Lib.hid h.b.nums.len; have H : Hid (∀ w', Below w.heap.size w w' → SysAt w' w.heap.size A n c A2 n2 c2 s) := fun w' hb => h.below hb (Nat.le_refl _) (Nat.le_refl _); have HS : Hid (∀ w', Below w.heap.size w w' → SysAt w' w'.heap.size A n c A2 n2 c2 s) := fun w' hb => h.below hb (Nat.le_refl _) hb.size; clear h
  go_enter Try.func12, Try.ntmps12
  go_wp2
  go_region_with (first
    | (go_at_call_of 38 (Value.slice A n c); refine (copyInts_any _ _ _ _ _ (HS.out _ (by exact (by repeat (first | with_reducible exact Below.refl _ _ | with_reducible assumption | with_reducible refine Below.drew ?_ | with_reducible refine Below.drewN ?_ _ | with_reducible refine Below.alloc2 ?_ _ | with_reducible refine Below.alloc ?_ (by first | omega | (simp <;> omega)) _ | with_reducible refine Below.setCell ?_ (by first | omega | (simp <;> omega)) _ | with_reducible refine Below.step2 (by with_reducible assumption) ?_ | with_reducible refine Below.step (by with_reducible assumption) ?_ (by first | omega | (simp <;> omega)))))).a (by omega)).mono ?_; rintro e w1 ⟨hb, v1, rfl, hown1⟩; have HB1 : Hid (Below w.heap.size w w1) := Lib.hid (by exact (by repeat (first | with_reducible exact Below.refl _ _ | with_reducible assumption | with_reducible refine Below.drew ?_ | with_reducible refine Below.drewN ?_ _ | with_reducible refine Below.alloc2 ?_ _ | with_reducible refine Below.alloc ?_ (by first | omega | (simp <;> omega)) _ | with_reducible refine Below.setCell ?_ (by first | omega | (simp <;> omega)) _ | with_reducible refine Below.step2 (by with_reducible assumption) ?_ | with_reducible refine Below.step (by with_reducible assumption) ?_ (by first | omega | (simp <;> omega))))); have HK1 : Hid (Bk w1 w.heap.size 24 #[.slice A n c, .slice A2 n2 c2, .int .i64 s.width, .int .i64 s.gap, .int .i64 s.lift]) := Lib.hid (by exact (by repeat (first | with_reducible assumption | with_reducible exact Bk.at_ (by first | (simp; done) | omega) | with_reducible refine Bk.alloc ?_ _ | with_reducible refine Bk.drew ?_ | with_reducible refine Bk.drewN ?_ _ | with_reducible refine Bk.step (by with_reducible assumption) ?_ (by first | omega | (simp <;> omega))))); have HR1 : Hid (Bk w1 (w.heap.size + 1) 24 #[.slice none 0 0, .slice none 0 0, .int .i64 0, .int .i64 0, .int .i64 0]) := Lib.hid (by exact (by repeat (first | with_reducible assumption | with_reducible exact Bk.at_ (by first | (simp; done) | omega) | with_reducible refine Bk.alloc ?_ _ | with_reducible refine Bk.drew ?_ | with_reducible refine Bk.drewN ?_ _ | with_reducible refine Bk.step (by with_reducible assumption) ?_ (by first | omega | (simp <;> omega))))); obtain ⟨⟨a10, a11, a12, a13, a14⟩, f10, f11, f12, f13, f14⟩ := HK1.out.five; have og1 := HR1.out.lt; have HX1 : Hid (∀ q, v1.ownBlock = some q → w.heap.size + 2 ≤ q) := Lib.hid (fun q hq => by have := (hown1.lt q hq).1; simp at this; omega); obtain ⟨A', c', rfl, hi1⟩ := Ints.of_own hown1; have HI1 := Lib.hid hi1; clear hb hown1 hi1)
    | (go_at_call_of 38 (Value.slice A2 n2 c2); refine (copyInts_any _ _ _ _ _ (HS.out _ HB1.out).b (by omega)).mono ?_; rintro e w2 ⟨hb, v2, rfl, hown2⟩; have HB2 : Hid (Below w.heap.size w w2) := Lib.hid (by have hb0 := HB1.out; exact (by repeat (first | with_reducible exact Below.refl _ _ | with_reducible assumption | with_reducible refine Below.drew ?_ | with_reducible refine Below.drewN ?_ _ | with_reducible refine Below.alloc2 ?_ _ | with_reducible refine Below.alloc ?_ (by first | omega | (simp <;> omega)) _ | with_reducible refine Below.setCell ?_ (by first | omega | (simp <;> omega)) _ | with_reducible refine Below.step2 (by with_reducible assumption) ?_ | with_reducible refine Below.step (by with_reducible assumption) ?_ (by first | omega | (simp <;> omega))))); have HK2 : Hid (Bk w2 w.heap.size 24 #[.slice A n c, .slice A2 n2 c2, .int .i64 s.width, .int .i64 s.gap, .int .i64 s.lift]) := Lib.hid (HK1.out.below hb HK1.out.lt); have HR2 : Hid (Bk w2 (w.heap.size + 1) 24 #[.slice none 0 0, .slice none 0 0, .int .i64 0, .int .i64 0, .int .i64 0]) := Lib.hid (HR1.out.below hb og1); obtain ⟨⟨a20, a21, a22, a23, a24⟩, f20, f21, f22, f23, f24⟩ := HK2.out.five; obtain ⟨⟨r20, r21, r22, r23, r24⟩, g20, g21, g22, g23, g24⟩ := HR2.out.five; have HI1' := Lib.hid (HI1.out.below hb (Nat.le_refl _) hb.size); have HX2 : Hid (∀ q, v2.ownBlock = some q → w.heap.size + 2 ≤ q) := Lib.hid (fun q hq => by have := (hown2.lt q hq).1; omega); obtain ⟨A2', c2', rfl, hi2⟩ := Ints.of_own hown2; have HI2 := Lib.hid hi2; have og2 := HR2.out.lt; clear hb hown2 hi2))
  all_goals
    go_wp2
    have hb0 := HB2.out
    have hk : ∀ (W : World), (∀ b, w.heap.size + 2 ≤ b → Same b w2 W) → w2.heap.size ≤ W.heap.size → SysAt W W.heap.size A' n c' A2' n2 c2' s := fun W hW hs =>
      ⟨⟨⟨HI1'.out.nums.sl.fresh (D := w.heap.size + 2) (fun a e => HX1.out _ (by rw [e]; rfl)) (fun b o hb => hW b hb o) hs⟩, HI1'.out.nil⟩, ⟨⟨HI2.out.nums.sl.fresh (D := w.heap.size + 2) (fun a e => HX2.out _ (by rw [e]; rfl)) (fun b o hb => hW b hb o) hs⟩, HI2.out.nil⟩⟩
    refine bodyPost_ret (v := .agg #[.slice A' n c', .slice A2' n2 c2', .int .i64 s.width, .int .i64 s.gap, .int .i64 s.lift]) (by simp [results, Try.results12, go_sem, r20, r21, r22, r23, r24]) rfl ⟨(by repeat (first | with_reducible exact Below.refl _ _ | with_reducible assumption | with_reducible refine Below.drew ?_ | with_reducible refine Below.drewN ?_ _ | with_reducible refine Below.alloc2 ?_ _ | with_reducible refine Below.alloc ?_ (by first | omega | (simp <;> omega)) _ | with_reducible refine Below.setCell ?_ (by first | omega | (simp <;> omega)) _ | with_reducible refine Below.step2 (by with_reducible assumption) ?_ | with_reducible refine Below.step (by with_reducible assumption) ?_ (by first | omega | (simp <;> omega)))), _, _, _, _, rfl, hk _ (fun b hb => (by repeat (first | with_reducible exact Same.refl _ _ | with_reducible assumption | with_reducible refine Same.drew ?_ | with_reducible refine Same.drewN ?_ _ | with_reducible refine Same.alloc ?_ _ (by first | omega | (simp; omega)) | with_reducible refine Same.set ?_ _ (by first | omega | (simp; omega)) | with_reducible refine Same.step ?_ (by with_reducible assumption) (by first | omega | (simp; omega))))) (by simp)⟩

end Go.Proofs.Ytkcbfkflkepfeaa
