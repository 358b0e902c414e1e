/- Chapter 6, walks: the reference's Select, and Select. -/
import Derived.Test.YtfnphhmcbdoojaaGreatDoorSel6
namespace Go.Proofs.YtfnphhmcbdoojaaGreatDoor
open Go.RowKit

set_option maxRecDepth 100000 in
set_option maxHeartbeats 8000000 in
theorem refSelect_any (f : Int) (A A2 : Option Addr) (n c m c2 st ri sh : Nat) (w : World) (hn : n ≤ 60) (hm : m ≤ 30) (hnc : n ≤ c) (hc1 : c ≤ 9223372036854775807) (hst : 1 ≤ st) (hst2 : st ≤ 30) (hri : 1 ≤ ri) (hri2 : ri ≤ 30) (hsh : sh ≤ 30) :
    Calls Tryz.prog 20 #[.agg #[.int .i64 f, .slice A n c, .slice A2 m c2], .agg #[.int .i64 (st : Int), .int .i64 (ri : Int), .int .i64 (sh : Int)]] w fun e w' => Below w.heap.size w w' ∧ ∃ A' c', e = .returned (.slice A' (selTo st ri sh (m / ri) n).length c') ∧ Pts w' w'.heap.size A' (selTo st ri sh (m / ri) n).length c' (selTo st ri sh (m / ri) n) := by
  obtain ⟨i0, hi0, hz0, hz1, hz2⟩ := info_parts info_tie
  have HI0 := Lib.hid hi0
  have HZ0 := Lib.hid hz0
  have HZ1 := Lib.hid hz1
  have HZ2 := Lib.hid hz2
  clear hi0 hz0 hz1 hz2
  obtain ⟨R, hR⟩ : ∃ R, m / ri = R := ⟨_, rfl⟩
  have hRm : R ≤ 30 := by rw [← hR]; have := Nat.div_le_self m ri; omega
  have hRR : Hid (∀ r : Nat, r < R ↔ (r + 1) * ri ≤ m) := Lib.hid fun r => by rw [← hR, Nat.lt_iff_add_one_le, Nat.le_div_iff_mul_le (by omega)]
  rw [hR]
  clear hR
  go_enter Tryz.func20, Tryz.ntmps20
  go_wp2
  go_loopw [5, 6, 7] (fun v x _ wr => ∃ i : Nat, i ≤ n ∧ x = .int .i64 i ∧ wr.ownsRow (w.heap.size + 2) 95 2 v (selTo st ri sh R i).length (pcells (selTo st ri sh R i)) ∧ Bk wr w.heap.size 24 #[.int .i64 f, .slice A n c, .slice A2 m c2] ∧ Bk wr (w.heap.size + 1) 35 #[.int .i64 (st : Int), .int .i64 (ri : Int), .int .i64 (sh : Int)] ∧ Below w.heap.size w wr) (fun _ x _ _ => n - (intOf x).toNat)
  case atStart => exact ⟨0, Nat.zero_le _, rfl, World.ownsRow_nil _ _ _ _, (by repeat (first | with_reducible assumption | with_reducible exact Bk.at_ (by first | (simp; done) | omega) | with_reducible refine Bk.alloc ?_ _ | with_reducible refine Bk.drew ?_ | with_reducible refine Bk.drewN ?_ _ | with_reducible refine Bk.step (by with_reducible assumption) ?_ (by first | omega | (simp <;> omega)))), (by repeat (first | with_reducible assumption | with_reducible exact Bk.at_ (by first | (simp; done) | omega) | with_reducible refine Bk.alloc ?_ _ | with_reducible refine Bk.drew ?_ | with_reducible refine Bk.drewN ?_ _ | with_reducible refine Bk.step (by with_reducible assumption) ?_ (by first | omega | (simp <;> omega)))), (by repeat (first | with_reducible exact Below.refl _ _ | with_reducible assumption | with_reducible refine Below.drew ?_ | with_reducible refine Below.drewN ?_ _ | with_reducible refine Below.alloc2 ?_ _ | with_reducible refine Below.alloc ?_ (by first | omega | (simp <;> omega)) _ | with_reducible refine Below.setCell ?_ (by first | omega | (simp <;> omega)) _ | with_reducible refine Below.step2 (by with_reducible assumption) ?_ | with_reducible refine Below.step (by with_reducible assumption) ?_ (by first | omega | (simp <;> omega))))⟩
  case round =>
    obtain ⟨i, hi, rfl, hown, hbk, hbp, hb⟩ := hrel
    have HB := Lib.hid hb
    have HOWN := Lib.hid hown
    have HBK := Lib.hid hbk
    have HBP := Lib.hid hbp
    obtain ⟨⟨a0, a1, a2⟩, -⟩ := hbk.three
    obtain ⟨⟨p0, p1, p2⟩, -⟩ := hbp.three
    have ow := hb.size
    have og := hbk.lt
    have op := hbp.lt
    clear hown hbk hbp hb
    by_cases hlt : i < n
    · go_wp2
      go_loopw [5, 7] (fun v x wr => ∃ r : Nat, r ≤ R ∧ x = .int .i64 r ∧ wr.ownsRow (w.heap.size + 2) 95 2 v (selTo st ri sh R i ++ rowTo st ri sh i r).length (pcells (selTo st ri sh R i ++ rowTo st ri sh i r)) ∧ Bk wr w.heap.size 24 #[.int .i64 f, .slice A n c, .slice A2 m c2] ∧ Bk wr (w.heap.size + 1) 35 #[.int .i64 (st : Int), .int .i64 (ri : Int), .int .i64 (sh : Int)] ∧ Below w.heap.size w wr) (fun _ x _ => R - (intOf x).toNat)
      case atStart => exact ⟨0, Nat.zero_le _, rfl, by simpa [rowTo] using HOWN.out, HBK.out, HBP.out, HB.out⟩
      case round =>
        obtain ⟨r, hr, rfl, hown, hbk, hbp, hb⟩ := hrel
        have HB := Lib.hid hb
        have HOWN := Lib.hid hown
        have HBK := Lib.hid hbk
        have HBP := Lib.hid hbp
        obtain ⟨⟨a0, a1, a2⟩, -⟩ := hbk.three
        obtain ⟨⟨p0, p1, p2⟩, -⟩ := hbp.three
        have ow := hb.size
        have og := hbk.lt
        have op := hbp.lt
        have hMle : (r + 1) * ri ≤ 31 * 30 := Nat.mul_le_mul (by omega) hri2
        have hMge : 1 ≤ (r + 1) * ri := Nat.mul_pos (by omega) (by omega)
        obtain ⟨T, hT⟩ : ∃ T, (r + 1) * ri = T + 1 := ⟨(r + 1) * ri - 1, by omega⟩
        have hw1 : IntKind.i64.wrap ((r : Int) + 1) = (r : Int) + 1 := IntWalk.i64_in _ (by omega)
        have hmul : IntKind.i64.wrap (((r : Int) + 1) * (ri : Int)) = (T : Int) + 1 := by
          have : ((r : Int) + 1) * (ri : Int) = (T : Int) + 1 := by exact_mod_cast hT
          rw [this]; exact IntWalk.i64_in _ (by omega)
        have hw2 : IntKind.i64.wrap ((T : Int) + 1 - 1) = (T : Int) := by rw [IntWalk.i64_in _ (by omega)]; omega
        have hw3 : IntKind.i64.wrap (T : Int) = (T : Int) := IntWalk.i64_in _ (by omega)
        have hiff := hRR.out r
        rw [hT] at hiff
        have HT := Lib.hid hT
        have hlen1 := selTo_len st ri sh R i
        have hlen2 := rowTo_len st ri sh i r
        have hlen3 : i * R ≤ 60 * 30 := Nat.mul_le_mul (by omega) hRm
        have hlen : (selTo st ri sh R i ++ rowTo st ri sh i r).length ≤ 1840 := by rw [List.length_append]; omega
        clear hlen1 hlen2 hlen3 hT hMle hMge hown hbk hbp hb
        by_cases hlt2 : r < R
        · have hTm : (T : Int) < (m : Int) := by have := hiff.1 hlt2; omega
          have hst0 : ((st : Int) == 0) = false := by simp; omega
          have hst1 : ¬ (st : Int) = 0 := by omega
          obtain ⟨P, hP⟩ : ∃ P, i % st = P := ⟨_, rfl⟩
          obtain ⟨MS, hMS⟩ : ∃ MS, r * sh = MS := ⟨_, rfl⟩
          obtain ⟨Q, hQ⟩ : ∃ Q, MS % st = Q := ⟨_, rfl⟩
          have hMSle : MS ≤ 30 * 30 := by rw [← hMS]; exact Nat.mul_le_mul (by omega) hsh
          have hPlt := Nat.mod_lt i (show st > 0 by omega)
          have hQlt := Nat.mod_lt MS (show st > 0 by omega)
          have hr1 : IntKind.i64.wrap ((i : Int).tmod (st : Int)) = (P : Int) := by rw [← Int.ofNat_tmod, hP]; exact IntWalk.i64_in _ (by omega)
          have hr2 : IntKind.i64.wrap ((MS : Int).tmod (st : Int)) = (Q : Int) := by rw [← Int.ofNat_tmod, hQ]; exact IntWalk.i64_in _ (by omega)
          have hr3 : (i : Int) % (st : Int) = (P : Int) := by rw [← Int.natCast_emod, hP]
          have hr4 : (MS : Int) % (st : Int) = (Q : Int) := by rw [← Int.natCast_emod, hQ]
          have hms : IntKind.i64.wrap ((r : Int) * (sh : Int)) = (MS : Int) := by
            have : (r : Int) * (sh : Int) = (MS : Int) := by exact_mod_cast hMS
            rw [this]; exact IntWalk.i64_in _ (by omega)
          have HPQ : Hid (rowTo st ri sh i (r + 1) = rowTo st ri sh i r ++ (if P = Q then [tieOf i r ri] else [])) := Lib.hid (by simp only [rowTo]; rw [hP, hMS, hQ])
          have HTI : Hid (tieOf i r ri = ((i : Int), (T : Int))) := Lib.hid (by unfold tieOf; rw [HT.out]; simp)
          clear hP hMS hQ hPlt hQlt hiff
          by_cases hPQ : P = Q
          · have hpq1 : ((P : Int) == (Q : Int)) = true := by simp [hPQ]
            have hpq2 : (P == Q) = true := by simp [hPQ]
            have HE := Lib.hid (show rowTo st ri sh i (r + 1) = rowTo st ri sh i r ++ [((i : Int), (T : Int))] by rw [HPQ.out, if_pos hPQ, HTI.out])
            clear hPQ HPQ HTI
            go_wp2
            go_quiet (fail)
            go_wp2_with (at_builtin; refine wpList_append_own_at _ rfl _ _ _ rfl (w.heap.size + 2) 95 i0 _ 2 16 Tryz.underlying36 HI0.out HZ0.out HZ1.out HZ2.out rfl (by omega) _ _ _ rfl (HOWN.out.alloc _) ⟨wr.heap.size, 0, none⟩ 1 1 [.int .i64 (i : Int), .int .i64 (T : Int)] rfl rfl (World.news_of_block (cs := #[.int .i64 (i : Int), .int .i64 (T : Int)]) (t := 95) (fr := (0, 0)) (heap_alloc_new wr _)) (by intro u hu; simp at hu; rcases hu with rfl | rfl <;> rfl) (by unfold maxLen; omega) (by omega) (by simp; omega) ?_; intro v1 w1 hown1 hg1 _ _; have HO1 := Lib.hid hown1; have HG1 := Lib.hid hg1; clear hown1 hg1)
            go_roundw
            case rel =>
              have hb0 := HB.out
              refine ⟨r + 1, by omega, by go_num, ?_, (HG1.out.block _ (by simp; omega) (fun e => by have := (HOWN.out.lt _ e.symm).1; omega)).trans ((HBK.out.drewN _).alloc _), (HG1.out.block _ (by simp; omega) (fun e => by have := (HOWN.out.lt _ e.symm).1; omega)).trans ((HBP.out.drewN _).alloc _), ?_⟩
              · have := HO1.out
                rw [HE.out, ← List.append_assoc, pcells_append]
                simpa [pcells, Nat.add_assoc] using this
              · have hbl : Below w.heap.size w (wr.drewN nq) := (by repeat (first | with_reducible exact Below.refl _ _ | with_reducible assumption | with_reducible refine Below.drew ?_ | with_reducible refine Below.drewN ?_ _ | with_reducible refine Below.alloc2 ?_ _ | with_reducible refine Below.alloc ?_ (by first | omega | (simp <;> omega)) _ | with_reducible refine Below.setCell ?_ (by first | omega | (simp <;> omega)) _ | with_reducible refine Below.step2 (by with_reducible assumption) ?_ | with_reducible refine Below.step (by with_reducible assumption) ?_ (by first | omega | (simp <;> omega))))
                exact (Below.alloc hbl hbl.size _).grown HG1.out (by simp; omega) (fun q hq => by have := (HOWN.out.lt _ hq).1; omega)
            case measure => (simp [intOf]; omega)
          · have hpq1 : ((P : Int) == (Q : Int)) = false := by simp; omega
            have hpq2 : (P == Q) = false := by simpa using hPQ
            have HE := Lib.hid (show rowTo st ri sh i (r + 1) = rowTo st ri sh i r by rw [HPQ.out, if_neg hPQ]; simp)
            clear hPQ HPQ HTI
            go_wp2
            go_quiet (fail)
            go_wp2
            go_roundw
            case rel =>
              have hb0 := HB.out
              exact ⟨r + 1, by omega, by go_num, by rw [HE.out]; exact HOWN.out, HBK.out.drewN _, HBP.out.drewN _, (by repeat (first | with_reducible exact Below.refl _ _ | with_reducible assumption | with_reducible refine Below.drew ?_ | with_reducible refine Below.drewN ?_ _ | with_reducible refine Below.alloc2 ?_ _ | with_reducible refine Below.alloc ?_ (by first | omega | (simp <;> omega)) _ | with_reducible refine Below.setCell ?_ (by first | omega | (simp <;> omega)) _ | with_reducible refine Below.step2 (by with_reducible assumption) ?_ | with_reducible refine Below.step (by with_reducible assumption) ?_ (by first | omega | (simp <;> omega))))⟩
            case measure => (simp [intOf]; omega)
        · have hTm : ¬ (T : Int) < (m : Int) := by intro hh; exact hlt2 (hiff.2 (by omega))
          obtain rfl : r = R := by omega
          go_wp2
          go_roundw
          case rel =>
            have hb0 := HB.out
            exact ⟨i + 1, by omega, by go_num, by exact HOWN.out, HBK.out, HBP.out, (by repeat (first | with_reducible exact Below.refl _ _ | with_reducible assumption | with_reducible refine Below.drew ?_ | with_reducible refine Below.drewN ?_ _ | with_reducible refine Below.alloc2 ?_ _ | with_reducible refine Below.alloc ?_ (by first | omega | (simp <;> omega)) _ | with_reducible refine Below.setCell ?_ (by first | omega | (simp <;> omega)) _ | with_reducible refine Below.step2 (by with_reducible assumption) ?_ | with_reducible refine Below.step (by with_reducible assumption) ?_ (by first | omega | (simp <;> omega))))⟩
          case measure => (simp [intOf]; omega)
    · obtain rfl : i = n := by omega
      obtain ⟨A', c', rfl, hs, -⟩ := Sl.of_own HOWN.out
      have HS := Lib.hid hs
      clear hs
      go_wp2
      go_ret
      have hb0 := HB.out
      exact ⟨(by repeat (first | with_reducible exact Below.refl _ _ | with_reducible assumption | with_reducible refine Below.drew ?_ | with_reducible refine Below.drewN ?_ _ | with_reducible refine Below.alloc2 ?_ _ | with_reducible refine Below.alloc ?_ (by first | omega | (simp <;> omega)) _ | with_reducible refine Below.setCell ?_ (by first | omega | (simp <;> omega)) _ | with_reducible refine Below.step2 (by with_reducible assumption) ?_ | with_reducible refine Below.step (by with_reducible assumption) ?_ (by first | omega | (simp <;> omega)))), _, _, rfl, ⟨HS.out⟩⟩

end Go.Proofs.YtfnphhmcbdoojaaGreatDoor
