/- Walks: lengthsError. -/
import Derived.Test.YtkcbfkflkepfeaaLens
namespace Go.Proofs.Ytkcbfkflkepfeaa
open Go.RowKit

theorem Bk.pair {w : World} {g t : Nat} {a b : Value} (h : Bk w g t #[a, b]) : w.cell? ⟨g, 0, none⟩ = some a ∧ w.cell? ⟨g, 1, none⟩ = some b := ⟨by simpa using h.cell 0, by simpa using h.cell 1⟩

set_option maxHeartbeats 4000000 in
theorem lengthsError_any (A A2 : Option Addr) (n c n2 c2 : Nat) (s : Sys) (w : World) (h : SysAt w w.heap.size A n c A2 n2 c2 s) (g : Nat) (t : TypeId) (hg : Bk w g t #[.slice A n c, .slice A2 n2 c2]) (m : Nat) :
    Calls Try.prog 64 #[.slice (some ⟨g, 0, none⟩) 2 m] w fun e w' => Below w.heap.size w w' ∧ e = .returned (.int .i64 (listsErr s.bays s.boards)) := by
  have hcapA := h.a.nums.cap; have hmaxA := h.a.nums.max; have hcapB := h.b.nums.cap; have hmaxB := h.b.nums.max; have HLA := Lib.hid h.a.nums.len; have HLB := Lib.hid h.b.nums.len; have H : Hid (∀ w', Below w.heap.size w w' → SysAt w' w.heap.size A n c A2 n2 c2 s) := fun w' hb => h.below hb (Nat.le_refl _) (Nat.le_refl _); have HS : Hid (∀ w', Below w.heap.size w w' → SysAt w' w'.heap.size A n c A2 n2 c2 s) := fun w' hb => h.below hb (Nat.le_refl _) hb.size; clear h
  have HG : Hid (∀ w', Below w.heap.size w w' → Bk w' g t #[.slice A n c, .slice A2 n2 c2]) := fun w' hb => hg.below hb hg.lt
  have og := hg.lt
  obtain ⟨g0, g1⟩ := hg.pair
  have HB0 : Hid (Below w.heap.size w w) := Lib.hid (Below.refl _ _)
  clear hg
  go_enter Try.func64, Try.ntmps64
  go_wp2
  refine wp_loop_rounds 3 ?_
  rw [rounds_succ]
  rcases hA : s.bays.all ok1
  · go_wp2_with (go_at_call 72; refine (containsBad_any _ _ _ _ _ _ (H.out _ HB0.out).a).mono ?_; rintro e wd ⟨hbd, rfl⟩; rw [hA])
    go_ret
    refine ⟨hbd, ret_int ?_⟩
    unfold listsErr
    rw [hA]
    simp
  · go_wp2_with (go_at_call 72; refine (containsBad_any _ _ _ _ _ _ (H.out _ HB0.out).a).mono ?_; rintro e wd ⟨hbd, rfl⟩; rw [hA])
    obtain ⟨hc1, hf1⟩ := bcell hbd
    have e0 := (hc1 _ 0 og).trans g0
    have e1 := (hc1 _ 1 og).trans g1
    have oz := hbd.size
    have HBD := Lib.hid hbd
    clear hbd hc1 hf1
    rw [rounds_succ]
    rcases hB : s.boards.all ok1
    · go_wp2_with (go_at_call 72; refine (containsBad_any _ _ _ _ _ _ (H.out _ HBD.out).b).mono ?_; rintro e wd ⟨hbd, rfl⟩; rw [hB])
      go_ret
      have hb0 := HBD.out
      refine ⟨(by repeat (first | with_reducible exact Below.refl _ _ | with_reducible assumption | with_reducible refine Below.drew ?_ | with_reducible refine Below.drewN ?_ _ | with_reducible refine Below.alloc2 ?_ _ | with_reducible refine Below.alloc ?_ (by first | omega | (simp <;> omega)) _ | with_reducible refine Below.setCell ?_ (by first | omega | (simp <;> omega)) _ | with_reducible refine Below.step2 (by with_reducible assumption) ?_ | with_reducible refine Below.step (by with_reducible assumption) ?_ (by first | omega | (simp <;> omega)))), ret_int ?_⟩
      unfold listsErr
      rw [hA, hB]
      simp
    · have HOK : Hid ((s.bays.all ok1 && s.boards.all ok1) = true) := Lib.hid (by rw [hA, hB]; rfl)
      go_wp2_with (go_at_call 72; refine (containsBad_any _ _ _ _ _ _ (H.out _ HBD.out).b).mono ?_; rintro e wd ⟨hbd, rfl⟩; rw [hB])
      have hb0 := HBD.out
      have HB2 : Hid (Below w.heap.size w wd) := Lib.hid (by exact (by repeat (first | with_reducible exact Below.refl _ _ | with_reducible assumption | with_reducible refine Below.drew ?_ | with_reducible refine Below.drewN ?_ _ | with_reducible refine Below.alloc2 ?_ _ | with_reducible refine Below.alloc ?_ (by first | omega | (simp <;> omega)) _ | with_reducible refine Below.setCell ?_ (by first | omega | (simp <;> omega)) _ | with_reducible refine Below.step2 (by with_reducible assumption) ?_ | with_reducible refine Below.step (by with_reducible assumption) ?_ (by first | omega | (simp <;> omega)))))
      clear hbd hb0 e0 e1 HBD
      rw [rounds_succ]
      go_wp2
      obtain ⟨e0, e1⟩ := (HG.out _ HB2.out).pair
      have oy := HB2.out.size
      refine wp_loop_rounds 3 ?_
      rw [rounds_succ]
      go_wp2
      go_loopw [7] (fun i wr => ∃ k : Nat, (k + 1 ≤ n ∨ k = 0) ∧ i = .int .i64 ((k + 1 : Nat) : Int) ∧ Hid (∀ j, j < k → s.bays.getD j 0 < s.bays.getD (j + 1) 0) ∧ Below w.heap.size w wr) (fun i _ => n - (intOf i).toNat)
      case atStart => exact ⟨0, .inr rfl, rfl, (fun j hj => absurd hj (Nat.not_lt_zero _) : ∀ j, j < 0 → s.bays.getD j 0 < s.bays.getD (j + 1) 0), by have hb0 := HB2.out; exact (by repeat (first | with_reducible exact Below.refl _ _ | with_reducible assumption | with_reducible refine Below.drew ?_ | with_reducible refine Below.drewN ?_ _ | with_reducible refine Below.alloc2 ?_ _ | with_reducible refine Below.alloc ?_ (by first | omega | (simp <;> omega)) _ | with_reducible refine Below.setCell ?_ (by first | omega | (simp <;> omega)) _ | with_reducible refine Below.step2 (by with_reducible assumption) ?_ | with_reducible refine Below.step (by with_reducible assumption) ?_ (by first | omega | (simp <;> omega))))⟩
      case round =>
        obtain ⟨k, hk, rfl, hall, hb⟩ := hrel
        by_cases hlt : k + 1 < n
        · obtain ⟨b, o, x, rfl, hbb, hx, c0⟩ := (H.out _ hb).a.nums.at_ (show k < n by omega)
          obtain ⟨b', o', y, e, hbb', hy, c1⟩ := (H.out _ hb).a.nums.at_ hlt
          obtain ⟨rfl, rfl⟩ : b = b' ∧ o = o' := by simpa using e
          have hw1 : IntKind.i64.wrap (((k + 1 : Nat) : Int) - 1) = (k : Int) := by rw [IntWalk.i64_in _ (by omega)]; omega
          have hw2 : IntKind.i64.wrap (((k : Nat) : Int) + 1 - 1) = (k : Int) := by rw [IntWalk.i64_in _ (by omega)]; omega
          have HX := Lib.hid (getD_of hx)
          have HY := Lib.hid (getD_of hy)
          have HB := Lib.hid hb
          have ow := hb.size
          have ob : b < wr.heap.size := by omega
          clear hb e hx hy hbb'
          by_cases hxy : y ≤ x
          · have hriseF := rise_not (l := s.bays) (j := k) (by rw [HLA.out]; omega) (by rw [HX.out, HY.out]; omega)
            have HRF := Lib.hid hriseF
            clear hriseF
            go_wp2
            go_quiet (fail)
            go_wp2
            go_ret
            have hb := HB.out
            exact ⟨(by repeat (first | with_reducible exact Below.refl _ _ | with_reducible assumption | with_reducible refine Below.drew ?_ | with_reducible refine Below.drewN ?_ _ | with_reducible refine Below.alloc2 ?_ _ | with_reducible refine Below.alloc ?_ (by first | omega | (simp <;> omega)) _ | with_reducible refine Below.setCell ?_ (by first | omega | (simp <;> omega)) _ | with_reducible refine Below.step2 (by with_reducible assumption) ?_ | with_reducible refine Below.step (by with_reducible assumption) ?_ (by first | omega | (simp <;> omega)))), ret_int (by unfold listsErr; rw [HOK.out, if_neg (by simp), HRF.out]; simp)⟩
          · go_wp2
            go_quiet (fail)
            go_wp2
            go_roundw
            case rel =>
              have hb := HB.out
              refine ⟨k + 1, .inl (by omega), by go_num, (fun j hj => ?_ : ∀ j, j < k + 1 → s.bays.getD j 0 < s.bays.getD (j + 1) 0), (by repeat (first | with_reducible exact Below.refl _ _ | with_reducible assumption | with_reducible refine Below.drew ?_ | with_reducible refine Below.drewN ?_ _ | with_reducible refine Below.alloc2 ?_ _ | with_reducible refine Below.alloc ?_ (by first | omega | (simp <;> omega)) _ | with_reducible refine Below.setCell ?_ (by first | omega | (simp <;> omega)) _ | with_reducible refine Below.step2 (by with_reducible assumption) ?_ | with_reducible refine Below.step (by with_reducible assumption) ?_ (by first | omega | (simp <;> omega))))⟩
              rcases Nat.lt_or_ge j k with hj' | hj'
              · exact hall.out j hj'
              · obtain rfl : j = k := by omega
                rw [HX.out, HY.out]
                omega
            case measure => simp [intOf]; omega
        · have HB := Lib.hid hb
          have HR : Hid (rise s.bays = true) := Lib.hid (rise_iff.2 (fun j hj => hall.out j (by rw [HLA.out] at hj; omega)))
          clear hb
          go_wp2
          obtain ⟨e0, e1⟩ := (HG.out _ HB.out).pair
          have oy := HB.out.size
          have HB3 := HB
          have HRA := HR
          clear HR HB hall hk
          rw [rounds_succ]
          go_wp2
          go_loopw [7] (fun i wr => ∃ k : Nat, (k + 1 ≤ n2 ∨ k = 0) ∧ i = .int .i64 ((k + 1 : Nat) : Int) ∧ Hid (∀ j, j < k → s.boards.getD j 0 < s.boards.getD (j + 1) 0) ∧ Below w.heap.size w wr) (fun i _ => n2 - (intOf i).toNat)
          case atStart => exact ⟨0, .inr rfl, rfl, (fun j hj => absurd hj (Nat.not_lt_zero _) : ∀ j, j < 0 → s.boards.getD j 0 < s.boards.getD (j + 1) 0), by have hb0 := HB3.out; exact (by repeat (first | with_reducible exact Below.refl _ _ | with_reducible assumption | with_reducible refine Below.drew ?_ | with_reducible refine Below.drewN ?_ _ | with_reducible refine Below.alloc2 ?_ _ | with_reducible refine Below.alloc ?_ (by first | omega | (simp <;> omega)) _ | with_reducible refine Below.setCell ?_ (by first | omega | (simp <;> omega)) _ | with_reducible refine Below.step2 (by with_reducible assumption) ?_ | with_reducible refine Below.step (by with_reducible assumption) ?_ (by first | omega | (simp <;> omega))))⟩
          case round =>
            obtain ⟨k, hk, rfl, hall, hb⟩ := hrel
            by_cases hlt : k + 1 < n2
            · obtain ⟨b, o, x, rfl, hbb, hx, c0⟩ := (H.out _ hb).b.nums.at_ (show k < n2 by omega)
              obtain ⟨b', o', y, e, hbb', hy, c1⟩ := (H.out _ hb).b.nums.at_ hlt
              obtain ⟨rfl, rfl⟩ : b = b' ∧ o = o' := by simpa using e
              have hw1 : IntKind.i64.wrap (((k + 1 : Nat) : Int) - 1) = (k : Int) := by rw [IntWalk.i64_in _ (by omega)]; omega
              have hw2 : IntKind.i64.wrap (((k : Nat) : Int) + 1 - 1) = (k : Int) := by rw [IntWalk.i64_in _ (by omega)]; omega
              have HX := Lib.hid (getD_of hx)
              have HY := Lib.hid (getD_of hy)
              have HB := Lib.hid hb
              have ow := hb.size
              have ob : b < wr.heap.size := by omega
              clear hb e hx hy hbb'
              by_cases hxy : y ≤ x
              · have hriseF := rise_not (l := s.boards) (j := k) (by rw [HLB.out]; omega) (by rw [HX.out, HY.out]; omega)
                have HRF := Lib.hid hriseF
                clear hriseF
                go_wp2
                go_quiet (fail)
                go_wp2
                go_ret
                have hb := HB.out
                exact ⟨(by repeat (first | with_reducible exact Below.refl _ _ | with_reducible assumption | with_reducible refine Below.drew ?_ | with_reducible refine Below.drewN ?_ _ | with_reducible refine Below.alloc2 ?_ _ | with_reducible refine Below.alloc ?_ (by first | omega | (simp <;> omega)) _ | with_reducible refine Below.setCell ?_ (by first | omega | (simp <;> omega)) _ | with_reducible refine Below.step2 (by with_reducible assumption) ?_ | with_reducible refine Below.step (by with_reducible assumption) ?_ (by first | omega | (simp <;> omega)))), ret_int (by unfold listsErr; rw [HOK.out, if_neg (by simp), HRF.out]; simp)⟩
              · go_wp2
                go_quiet (fail)
                go_wp2
                go_roundw
                case rel =>
                  have hb := HB.out
                  refine ⟨k + 1, .inl (by omega), by go_num, (fun j hj => ?_ : ∀ j, j < k + 1 → s.boards.getD j 0 < s.boards.getD (j + 1) 0), (by repeat (first | with_reducible exact Below.refl _ _ | with_reducible assumption | with_reducible refine Below.drew ?_ | with_reducible refine Below.drewN ?_ _ | with_reducible refine Below.alloc2 ?_ _ | with_reducible refine Below.alloc ?_ (by first | omega | (simp <;> omega)) _ | with_reducible refine Below.setCell ?_ (by first | omega | (simp <;> omega)) _ | with_reducible refine Below.step2 (by with_reducible assumption) ?_ | with_reducible refine Below.step (by with_reducible assumption) ?_ (by first | omega | (simp <;> omega))))⟩
                  rcases Nat.lt_or_ge j k with hj' | hj'
                  · exact hall.out j hj'
                  · obtain rfl : j = k := by omega
                    rw [HX.out, HY.out]
                    omega
                case measure => simp [intOf]; omega
            · have HB := Lib.hid hb
              have HR : Hid (rise s.boards = true) := Lib.hid (rise_iff.2 (fun j hj => hall.out j (by rw [HLB.out] at hj; omega)))
              clear hb
              go_wp2
              obtain ⟨e0, e1⟩ := (HG.out _ HB.out).pair
              rw [rounds_succ]
              go_wp2
              go_ret
              exact ⟨HB.out, ret_int (by unfold listsErr; rw [HOK.out, HRA.out, HR.out]; rfl)⟩

end Go.Proofs.Ytkcbfkflkepfeaa
