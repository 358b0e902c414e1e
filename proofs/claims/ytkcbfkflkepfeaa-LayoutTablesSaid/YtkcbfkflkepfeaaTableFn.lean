/- Walks: tableUpTo, Table. -/
import Derived.Test.YtkcbfkflkepfeaaLenErr
namespace Go.Proofs.Ytkcbfkflkepfeaa
open Go.RowKit

theorem bothErr_facts {s : Sys} {x : Int} (he : s.bothErr x = 0) : s.Ok ∧ 0 ≤ x ∧ x ≤ 4000 * s.unit := by
  have hse : s.err = 0 := by
    by_cases h : s.err = 0
    · exact h
    · rw [Sys.bothErr_bad rfl h] at he
      exact absurd he h
  rw [Sys.bothErr_ok hse] at he
  have hx0 : 0 ≤ x := by unfold Sys.lenErr at he; split at he <;> first | (cases he; done) | omega
  refine ⟨Sys.ok_of hse, hx0, ?_⟩
  unfold Sys.lenErr at he
  rw [if_neg (by omega)] at he
  split at he
  · cases he
  · omega

set_option maxHeartbeats 4000000 in
theorem tableUpTo_ok (A A2 : Option Addr) (n c n2 c2 : Nat) (s : Sys) (w : World) (h : SysAt w w.heap.size A n c A2 n2 c2 s) (x : Int) (he : s.bothErr x = 0) :
    Calls Try.prog 43 #[.agg #[.slice A n c, .slice A2 n2 c2, .int .i64 s.width, .int .i64 s.gap, .int .i64 s.lift], .int .i64 x] w fun e w' => Below w.heap.size w w' ∧
      ∃ PA pn pc TA tc, e = .returned (.tuple #[.agg #[.int .i64 s.unit, .slice PA pn pc, .slice TA ((x.tdiv s.unit).toNat + 1) tc], .int .i64 0]) ∧ PartsAt w' w'.heap.size PA pn pc s.parts ∧ Ints w' w'.heap.size TA ((x.tdiv s.unit).toNat + 1) tc (tab s.parts (x.tdiv s.unit).toNat) ∧ Fresh w.heap.size TA := by
  have hcapA := h.a.nums.cap; have hmaxA := h.a.nums.max; have hcapB := h.b.nums.cap; have hmaxB := h.b.nums.max; have HLA := Lib.hid h.a.nums.len; have HLB := Lib.hid h.b.nums.len; have H : Hid (∀ w', Below w.heap.size w w' → SysAt w' w.heap.size A n c A2 n2 c2 s) := fun w' hb => h.below hb (Nat.le_refl _) (Nat.le_refl _); have HS : Hid (∀ w', Below w.heap.size w w' → SysAt w' w'.heap.size A n c A2 n2 c2 s) := fun w' hb => h.below hb (Nat.le_refl _) hb.size; clear h
  have HE := Lib.hid he
  obtain ⟨hok, hx0, hx1⟩ := bothErr_facts he
  have HT := Lib.hid (fun (W : World) (hW : Below w.heap.size w W) => tableOf_any A A2 n c n2 c2 s W (HS.out W hW) hok x hx0 hx1)
  clear he hok hx0 hx1
  generalize (x.tdiv s.unit).toNat + 1 = N at *
  generalize tab s.parts (x.tdiv s.unit).toNat = T at *
  go_enter Try.func43, Try.ntmps43
  go_wp2_with (first
    | (go_at_call 48; refine (sysLen_any _ _ _ _ _ _ _ _ (HS.out _ (by exact (by repeat (first | with_reducible exact Below.refl _ _ | with_reducible assumption | with_reducible refine Below.drew ?_ | with_reducible refine Below.drewN ?_ _ | with_reducible refine Below.alloc2 ?_ _ | with_reducible refine Below.alloc ?_ (by first | omega | (simp <;> omega)) _ | with_reducible refine Below.setCell ?_ (by first | omega | (simp <;> omega)) _ | with_reducible refine Below.step2 (by with_reducible assumption) ?_ | with_reducible refine Below.step (by with_reducible assumption) ?_ (by first | omega | (simp <;> omega)))))) _).mono ?_; rintro e w1 ⟨hb1, rfl⟩; rw [HE.out]; have HB1 : Hid (Below w.heap.size w w1) := Lib.hid (by exact (by repeat (first | with_reducible exact Below.refl _ _ | with_reducible assumption | with_reducible refine Below.drew ?_ | with_reducible refine Below.drewN ?_ _ | with_reducible refine Below.alloc2 ?_ _ | with_reducible refine Below.alloc ?_ (by first | omega | (simp <;> omega)) _ | with_reducible refine Below.setCell ?_ (by first | omega | (simp <;> omega)) _ | with_reducible refine Below.step2 (by with_reducible assumption) ?_ | with_reducible refine Below.step (by with_reducible assumption) ?_ (by first | omega | (simp <;> omega))))); have HK1 : Hid (Bk w1 w.heap.size 24 #[.slice A n c, .slice A2 n2 c2, .int .i64 s.width, .int .i64 s.gap, .int .i64 s.lift]) := Lib.hid (by exact (by repeat (first | with_reducible assumption | with_reducible exact Bk.at_ (by first | (simp; done) | omega) | with_reducible refine Bk.alloc ?_ _ | with_reducible refine Bk.drew ?_ | with_reducible refine Bk.drewN ?_ _ | with_reducible refine Bk.step (by with_reducible assumption) ?_ (by first | omega | (simp <;> omega))))); have HR1 : Hid (Bk w1 (w.heap.size + 1) 68 #[.int .i64 0, .slice none 0 0, .slice none 0 0]) := Lib.hid (by exact (by repeat (first | with_reducible assumption | with_reducible exact Bk.at_ (by first | (simp; done) | omega) | with_reducible refine Bk.alloc ?_ _ | with_reducible refine Bk.drew ?_ | with_reducible refine Bk.drewN ?_ _ | with_reducible refine Bk.step (by with_reducible assumption) ?_ (by first | omega | (simp <;> omega))))); obtain ⟨⟨a0, a1, a2, a3, a4⟩, -⟩ := HK1.out.five; obtain ⟨⟨t0, t1, t2⟩, f0, f1, f2⟩ := HR1.out.three; have oz1 := HB1.out.size; have og1 := HR1.out.lt; clear hb1)
    | (go_at_call 54; refine (HT.out _ HB1.out).mono ?_; rintro e w2 ⟨hb2, PA, pn, pc, TA, tc, rfl, hp, ht, hf1, hf2⟩; have HB2 : Hid (Below w.heap.size w w2) := Lib.hid (by have hb0 := HB1.out; exact (by repeat (first | with_reducible exact Below.refl _ _ | with_reducible assumption | with_reducible refine Below.drew ?_ | with_reducible refine Below.drewN ?_ _ | with_reducible refine Below.alloc2 ?_ _ | with_reducible refine Below.alloc ?_ (by first | omega | (simp <;> omega)) _ | with_reducible refine Below.setCell ?_ (by first | omega | (simp <;> omega)) _ | with_reducible refine Below.step2 (by with_reducible assumption) ?_ | with_reducible refine Below.step (by with_reducible assumption) ?_ (by first | omega | (simp <;> omega))))); have HR2 : Hid (Bk w2 (w.heap.size + 1) 68 #[.int .i64 0, .slice none 0 0, .slice none 0 0]) := Lib.hid (HR1.out.below hb2 og1); obtain ⟨⟨u0, u1, u2⟩, q0, q1, q2⟩ := HR2.out.three; have og2 := HR2.out.lt; have HP := Lib.hid hp; have HTT := Lib.hid ht; have HF1 := Lib.hid hf1; have HF2 := Lib.hid hf2; have ol1 : w.heap.size + 1 < w1.heap.size := og1; clear hb2 hp ht hf1 hf2))
  have hb0 := HB2.out
  have hkk : ∀ b o, w1.heap.size ≤ b → (((w2.setCell ⟨w.heap.size + 1, 0, none⟩ (.int .i64 s.unit)).setCell ⟨w.heap.size + 1, 1, none⟩ (.slice PA pn pc)).setCell ⟨w.heap.size + 1, 2, none⟩ (.slice TA N tc)).cell? ⟨b, o, none⟩ = w2.cell? ⟨b, o, none⟩ := fun b o hb =>
    ((((Same.refl b w2).set (p := ⟨w.heap.size + 1, 0, none⟩) (.int .i64 s.unit) (by show w.heap.size + 1 ≠ b; omega)).set (p := ⟨w.heap.size + 1, 1, none⟩) (.slice PA pn pc) (by show w.heap.size + 1 ≠ b; omega)).set (p := ⟨w.heap.size + 1, 2, none⟩) (.slice TA N tc) (by show w.heap.size + 1 ≠ b; omega)) o
  refine bodyPost_ret (v := .tuple #[.agg #[.int .i64 s.unit, .slice PA pn pc, .slice TA N tc], .int .i64 0]) (by simp [results, Try.results43, go_sem, u0, u1, u2]) rfl ⟨(by repeat (first | with_reducible exact Below.refl _ _ | with_reducible assumption | with_reducible refine Below.drew ?_ | with_reducible refine Below.drewN ?_ _ | with_reducible refine Below.alloc2 ?_ _ | with_reducible refine Below.alloc ?_ (by first | omega | (simp <;> omega)) _ | with_reducible refine Below.setCell ?_ (by first | omega | (simp <;> omega)) _ | with_reducible refine Below.step2 (by with_reducible assumption) ?_ | with_reducible refine Below.step (by with_reducible assumption) ?_ (by first | omega | (simp <;> omega)))), _, _, _, _, _, rfl, ⟨HP.out.sl.fresh HF1.out hkk (by simp), HP.out.nil⟩, ⟨⟨HTT.out.nums.sl.fresh HF2.out hkk (by simp)⟩, HTT.out.nil⟩, fun a e => Nat.le_trans HB1.out.size (HF2.out a e)⟩

end Go.Proofs.Ytkcbfkflkepfeaa
