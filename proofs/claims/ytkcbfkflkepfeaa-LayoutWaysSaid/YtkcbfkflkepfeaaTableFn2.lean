/- Walks: Table. -/
import Derived.Test.YtkcbfkflkepfeaaTableFn
namespace Go.Proofs.Ytkcbfkflkepfeaa
open Go.RowKit

set_option maxHeartbeats 4000000 in
theorem table_ok (A A2 : Option Addr) (n c n2 c2 : Nat) (s : Sys) (w : World) (h : SysAt w w.heap.size A n c A2 n2 c2 s) (x : Int) (he : s.bothErr x = 0) :
    Calls Try.prog 27 #[.agg #[.slice A n c, .slice A2 n2 c2, .int .i64 s.width, .int .i64 s.gap, .int .i64 s.lift], .int .i64 x] w fun e w' => Below w.heap.size w w' ∧
      ∃ TA tc, e = .returned (.tuple #[.slice TA ((x.tdiv s.unit).toNat + 1) tc, .int .i64 0]) ∧ Ints w' w'.heap.size TA ((x.tdiv s.unit).toNat + 1) tc (tab s.parts (x.tdiv s.unit).toNat) := by
  have hcapA := h.a.nums.cap; have hmaxA := h.a.nums.max; have hcapB := h.b.nums.cap; have hmaxB := h.b.nums.max; have HLA := Lib.hid h.a.nums.len; have HLB := Lib.hid h.b.nums.len; have H : Hid (∀ w', Below w.heap.size w w' → SysAt w' w.heap.size A n c A2 n2 c2 s) := fun w' hb => h.below hb (Nat.le_refl _) (Nat.le_refl _); have HS : Hid (∀ w', Below w.heap.size w w' → SysAt w' w'.heap.size A n c A2 n2 c2 s) := fun w' hb => h.below hb (Nat.le_refl _) hb.size; clear h
  have HT := Lib.hid (fun (W : World) (hW : Below w.heap.size w W) => tableUpTo_ok A A2 n c n2 c2 s W (HS.out W hW) x he)
  clear he
  generalize (x.tdiv s.unit).toNat + 1 = N at *
  generalize tab s.parts (x.tdiv s.unit).toNat = T at *
  go_enter Try.func27, Try.ntmps27
  go_wp2_with (go_at_call 43; refine (HT.out _ (by exact (by repeat (first | with_reducible exact Below.refl _ _ | with_reducible assumption | with_reducible refine Below.drew ?_ | with_reducible refine Below.drewN ?_ _ | with_reducible refine Below.alloc2 ?_ _ | with_reducible refine Below.alloc ?_ (by first | omega | (simp <;> omega)) _ | with_reducible refine Below.setCell ?_ (by first | omega | (simp <;> omega)) _ | with_reducible refine Below.step2 (by with_reducible assumption) ?_ | with_reducible refine Below.step (by with_reducible assumption) ?_ (by first | omega | (simp <;> omega)))))).mono ?_; rintro e w2 ⟨hb2, PA, pn, pc, TA, tc, rfl, hp, ht, hf⟩; have HB2 : Hid (Below w.heap.size w w2) := Lib.hid (by exact (by repeat (first | with_reducible exact Below.refl _ _ | with_reducible assumption | with_reducible refine Below.drew ?_ | with_reducible refine Below.drewN ?_ _ | with_reducible refine Below.alloc2 ?_ _ | with_reducible refine Below.alloc ?_ (by first | omega | (simp <;> omega)) _ | with_reducible refine Below.setCell ?_ (by first | omega | (simp <;> omega)) _ | with_reducible refine Below.step2 (by with_reducible assumption) ?_ | with_reducible refine Below.step (by with_reducible assumption) ?_ (by first | omega | (simp <;> omega))))); have HTT := Lib.hid ht; clear hb2 hp ht hf)
  go_ret2
  have hb0 := HB2.out
  exact ⟨(by repeat (first | with_reducible exact Below.refl _ _ | with_reducible assumption | with_reducible refine Below.drew ?_ | with_reducible refine Below.drewN ?_ _ | with_reducible refine Below.alloc2 ?_ _ | with_reducible refine Below.alloc ?_ (by first | omega | (simp <;> omega)) _ | with_reducible refine Below.setCell ?_ (by first | omega | (simp <;> omega)) _ | with_reducible refine Below.step2 (by with_reducible assumption) ?_ | with_reducible refine Below.step (by with_reducible assumption) ?_ (by first | omega | (simp <;> omega)))), _, _, rfl, HTT.out.below (Below.alloc (Below.refl _ _) (Nat.le_refl _) _) (Nat.le_refl _) (by simp)⟩

end Go.Proofs.Ytkcbfkflkepfeaa
