/- The walk of the reference's Where. -/
import Derived.Test.YtbfbjpnmgcpjlaaRefPt
namespace Go.Proofs.Ytbfbjpnmgcpjlaa
open Go.RowKit

set_option maxRecDepth 100000 in
set_option maxHeartbeats 8000000 in
theorem refWhere_any (A : Option Addr) (n c : Nat) (l : List (Int × Int)) (x y : Int) (w : World) (h : Pts w w.heap.size A n c l) (hv : ∀ k, k < n → dirP (pt l k) (pt l (nx l k)) ≠ -1) :
    Calls Try.prog 33 #[.slice A n c, .agg #[.int .i64 x, .int .i64 y]] w fun e w' => Below w.heap.size w w' ∧ e = .returned (.int .i64 (whereS (sides l) x y)) := by
  have hcap := h.cap
  have hmax := h.max
  have HLEN := Lib.hid h.len
  have HV := Lib.hid hv
  have H : Hid (∀ w', Below w.heap.size w w' → Pts w' w'.heap.size A n c l) := fun w' hb => h.below hb (Nat.le_refl _) hb.size
  have H0 : Hid (∀ w', Below w.heap.size w w' → Pts w' w.heap.size A n c l) := fun w' hb => h.below hb (Nat.le_refl _) (Nat.le_refl _)
  clear h hv
  go_enter Try.func33, Try.ntmps33
  go_wp2
  go_loopw [5, 6] (fun s i wr => ∃ k q : Nat, k ≤ n ∧ i = .int .i64 k ∧ s = .int .i64 q ∧ q ≤ k ∧ Hid (insTo (sides l) x y k = odd q) ∧ Hid (∀ j, j < k → distS (sd (sides l) j) x y ≠ 0) ∧ Bk wr w.heap.size 57 #[.int .i64 x, .int .i64 y] ∧ Below w.heap.size w wr) (fun _ i _ => n - (intOf i).toNat)
  case atStart => exact ⟨0, 0, Nat.zero_le _, rfl, rfl, Nat.le_refl _, Lib.hid rfl, fun j hj => absurd hj (by omega), (by repeat (first | with_reducible assumption | with_reducible exact Bk.at_ (by simp) | with_reducible refine Bk.alloc ?_ _ | with_reducible refine Bk.drew ?_ | with_reducible refine Bk.drewN ?_ _ | with_reducible refine Bk.step (by with_reducible assumption) ?_ (by first | omega | (simp <;> omega)))), (by repeat (first | with_reducible exact Below.refl _ _ | with_reducible assumption | with_reducible refine Below.drew ?_ | with_reducible refine Below.drewN ?_ _ | with_reducible refine Below.alloc2 ?_ _ | with_reducible refine Below.alloc ?_ (by first | omega | (simp <;> omega)) _ | with_reducible refine Below.setCell ?_ (by first | omega | (simp <;> omega)) _ | with_reducible refine Below.step2 (by with_reducible assumption) ?_ | with_reducible refine Below.step (by with_reducible assumption) ?_ (by first | omega | (simp <;> omega))))⟩
  case round =>
    obtain ⟨k, q, hk, rfl, rfl, hqk, hins, hall, hbk, hb⟩ := hrel
    obtain ⟨⟨p0, p1⟩, -⟩ := hbk.two
    have ho := hbk.lt
    have hsz := hb.size
    by_cases hlt : k < n
    · have hkl : k < l.length := by rw [HLEN.out]; exact hlt
      have hj : nx l k < n := by have := nx_lt hkl; rwa [HLEN.out] at this
      obtain ⟨b, o, a, d, rfl, hbb, hx, c0, c1⟩ := (H0.out _ hb).at_ hlt
      obtain ⟨b', o', u, v, e, hbb', hu, -, -⟩ := (H0.out _ hb).at_ hj
      have hdir := HV.out k hlt
      have HSD : Hid (sd (sides l) k = sideOf (a, d) (u, v)) := Lib.hid (by rw [sides_sd hkl]; unfold sideK; rw [pt_of hx, pt_of hu])
      have hnx := next_any (some ⟨b, o, none⟩) n c k l wr (H.out _ hb) hlt
      rw [pt_of hu] at hnx
      rw [pt_of hx, pt_of hu] at hdir
      have HZ := Lib.hid (distS_zero (x := x) (y := y) hdir)
      have HCR := Lib.hid (crB_ref (x := x) (y := y) hdir)
      have HNX := Lib.hid hnx
      have HB := Lib.hid hb
      have HBK := Lib.hid hbk
      have ob : b < wr.heap.size := by omega
      have op : w.heap.size < wr.heap.size := by omega
      clear hx hu hb hbk e hnx hbb' hkl hdir
      have HBX := Lib.hid (fun W : World => between_any x a u W)
      have HBY := Lib.hid (fun W : World => between_any y d v W)
      go_wp2_with fail
      refine HNX.out.mono ?_
      rintro e w1 ⟨hb1, rfl⟩
      obtain ⟨hc1, -⟩ := bcell hb1
      have hz1 := hb1.size
      replace c0 := (hc1 _ _ ob).trans c0
      replace c1 := (hc1 _ _ ob).trans c1
      replace p0 := (hc1 _ _ op).trans p0
      replace p1 := (hc1 _ _ op).trans p1
      have ob1 : b < w1.heap.size := by omega
      have op1 : w.heap.size < w1.heap.size := by omega
      have HB1 := Lib.hid hb1
      clear hb1 hc1 ob op
      have HIS : Hid (insTo (sides l) x y (k + 1) = if crB (sideOf (a, d) (u, v)) x y = true then -insTo (sides l) x y k else insTo (sides l) x y k) := Lib.hid (by simp only [insTo]; rw [HSD.out])
      rcases t1 : betw x a u
      · have HNZ : Hid (distS (sideOf (a, d) (u, v)) x y ≠ 0) := Lib.hid (fun e => by have := HZ.out.1 e; rw [t1] at this; simp at this)
        rw [t1] at HBX
        clear t1
        go_wp2
        have e0 : (w1.alloc (.cells #[.int .i64 u, .int .i64 v] 57)).cell? ⟨w1.heap.size, 0, none⟩ = some (.int .i64 u) := by simp
        have e1 : (w1.alloc (.cells #[.int .i64 u, .int .i64 v] 57)).cell? ⟨w1.heap.size, 1, none⟩ = some (.int .i64 v) := by simp
        have r0 : (w1.alloc (.cells #[.int .i64 u, .int .i64 v] 57)).cell? ⟨b, o + k * 2, none⟩ = some (.int .i64 a) := (World.cell?_alloc_lt w1 _ _ ob1).trans c0
        have r1 : (w1.alloc (.cells #[.int .i64 u, .int .i64 v] 57)).cell? ⟨b, o + k * 2 + 1, none⟩ = some (.int .i64 d) := (World.cell?_alloc_lt w1 _ _ ob1).trans c1
        have s0 : (w1.alloc (.cells #[.int .i64 u, .int .i64 v] 57)).cell? ⟨w.heap.size, 0, none⟩ = some (.int .i64 x) := (World.cell?_alloc_lt w1 _ _ op1).trans p0
        have s1 : (w1.alloc (.cells #[.int .i64 u, .int .i64 v] 57)).cell? ⟨w.heap.size, 1, none⟩ = some (.int .i64 y) := (World.cell?_alloc_lt w1 _ _ op1).trans p1
        go_quiet ((first | (go_at_call_of 65 (Value.int .i64 x); exact quiet_left (HBX.out _)) | (go_at_call_of 65 (Value.int .i64 y); exact quiet_left (HBY.out _))))
        by_cases z1 : a = u
        · have z1b : (a == u) = true := by simpa using z1
          have Z1 := Lib.hid z1
          clear z1
          rcases Int.lt_or_le x a with z2 | z2
          · rcases Int.lt_or_le y (min d v) with z3 | z3
            · have zd : decide (min d v ≤ y) = false := by rw [decide_eq_false_iff_not]; omega
              go_wp2
              go_quiet (fail)
              go_wp2
              go_roundw
              case rel =>
                have hb := HB.out
                have hb1 := HB1.out
                have hbk := HBK.out
                refine ⟨k + 1, q, by omega, by go_num, by go_num, by omega, Lib.hid ?_, Lib.hid fun j hj => ?_, (by repeat (first | with_reducible assumption | with_reducible exact Bk.at_ (by simp) | with_reducible refine Bk.alloc ?_ _ | with_reducible refine Bk.drew ?_ | with_reducible refine Bk.drewN ?_ _ | with_reducible refine Bk.step (by with_reducible assumption) ?_ (by first | omega | (simp <;> omega)))), (by repeat (first | with_reducible exact Below.refl _ _ | with_reducible assumption | with_reducible refine Below.drew ?_ | with_reducible refine Below.drewN ?_ _ | with_reducible refine Below.alloc2 ?_ _ | with_reducible refine Below.alloc ?_ (by first | omega | (simp <;> omega)) _ | with_reducible refine Below.setCell ?_ (by first | omega | (simp <;> omega)) _ | with_reducible refine Below.step2 (by with_reducible assumption) ?_ | with_reducible refine Below.step (by with_reducible assumption) ?_ (by first | omega | (simp <;> omega))))⟩
                · rw [HIS.out, if_neg (by rw [HCR.out, decide_eq_true_eq]; omega), hins.out]
                  skip
                · rcases Nat.lt_or_ge j k with h | h
                  · exact hall.out j h
                  · have e : j = k := by omega
                    rw [e, HSD.out]
                    exact HNZ.out
              case measure => simp [intOf]; omega
            · rcases Int.lt_or_le y (max d v) with z4 | z4
              · go_wp2
                go_quiet (fail)
                go_wp2
                go_roundw
                case rel =>
                  have hb := HB.out
                  have hb1 := HB1.out
                  have hbk := HBK.out
                  refine ⟨k + 1, q + 1, by omega, by go_num, by go_num, by omega, Lib.hid ?_, Lib.hid fun j hj => ?_, (by repeat (first | with_reducible assumption | with_reducible exact Bk.at_ (by simp) | with_reducible refine Bk.alloc ?_ _ | with_reducible refine Bk.drew ?_ | with_reducible refine Bk.drewN ?_ _ | with_reducible refine Bk.step (by with_reducible assumption) ?_ (by first | omega | (simp <;> omega)))), (by repeat (first | with_reducible exact Below.refl _ _ | with_reducible assumption | with_reducible refine Below.drew ?_ | with_reducible refine Below.drewN ?_ _ | with_reducible refine Below.alloc2 ?_ _ | with_reducible refine Below.alloc ?_ (by first | omega | (simp <;> omega)) _ | with_reducible refine Below.setCell ?_ (by first | omega | (simp <;> omega)) _ | with_reducible refine Below.step2 (by with_reducible assumption) ?_ | with_reducible refine Below.step (by with_reducible assumption) ?_ (by first | omega | (simp <;> omega))))⟩
                  · rw [HIS.out, if_pos (by rw [HCR.out, decide_eq_true_eq]; exact ⟨Z1.out, z2, z3, z4⟩), hins.out]
                    exact (odd_succ q).symm
                  · rcases Nat.lt_or_ge j k with h | h
                    · exact hall.out j h
                    · have e : j = k := by omega
                      rw [e, HSD.out]
                      exact HNZ.out
                case measure => simp [intOf]; omega
              · go_wp2
                go_quiet (fail)
                go_wp2
                go_roundw
                case rel =>
                  have hb := HB.out
                  have hb1 := HB1.out
                  have hbk := HBK.out
                  refine ⟨k + 1, q, by omega, by go_num, by go_num, by omega, Lib.hid ?_, Lib.hid fun j hj => ?_, (by repeat (first | with_reducible assumption | with_reducible exact Bk.at_ (by simp) | with_reducible refine Bk.alloc ?_ _ | with_reducible refine Bk.drew ?_ | with_reducible refine Bk.drewN ?_ _ | with_reducible refine Bk.step (by with_reducible assumption) ?_ (by first | omega | (simp <;> omega)))), (by repeat (first | with_reducible exact Below.refl _ _ | with_reducible assumption | with_reducible refine Below.drew ?_ | with_reducible refine Below.drewN ?_ _ | with_reducible refine Below.alloc2 ?_ _ | with_reducible refine Below.alloc ?_ (by first | omega | (simp <;> omega)) _ | with_reducible refine Below.setCell ?_ (by first | omega | (simp <;> omega)) _ | with_reducible refine Below.step2 (by with_reducible assumption) ?_ | with_reducible refine Below.step (by with_reducible assumption) ?_ (by first | omega | (simp <;> omega))))⟩
                  · rw [HIS.out, if_neg (by rw [HCR.out, decide_eq_true_eq]; omega), hins.out]
                    skip
                  · rcases Nat.lt_or_ge j k with h | h
                    · exact hall.out j h
                    · have e : j = k := by omega
                      rw [e, HSD.out]
                      exact HNZ.out
                case measure => simp [intOf]; omega
          · have zd : decide (x < a) = false := by rw [decide_eq_false_iff_not]; omega
            go_wp2
            go_quiet (fail)
            go_wp2
            go_roundw
            case rel =>
              have hb := HB.out
              have hb1 := HB1.out
              have hbk := HBK.out
              refine ⟨k + 1, q, by omega, by go_num, by go_num, by omega, Lib.hid ?_, Lib.hid fun j hj => ?_, (by repeat (first | with_reducible assumption | with_reducible exact Bk.at_ (by simp) | with_reducible refine Bk.alloc ?_ _ | with_reducible refine Bk.drew ?_ | with_reducible refine Bk.drewN ?_ _ | with_reducible refine Bk.step (by with_reducible assumption) ?_ (by first | omega | (simp <;> omega)))), (by repeat (first | with_reducible exact Below.refl _ _ | with_reducible assumption | with_reducible refine Below.drew ?_ | with_reducible refine Below.drewN ?_ _ | with_reducible refine Below.alloc2 ?_ _ | with_reducible refine Below.alloc ?_ (by first | omega | (simp <;> omega)) _ | with_reducible refine Below.setCell ?_ (by first | omega | (simp <;> omega)) _ | with_reducible refine Below.step2 (by with_reducible assumption) ?_ | with_reducible refine Below.step (by with_reducible assumption) ?_ (by first | omega | (simp <;> omega))))⟩
              · rw [HIS.out, if_neg (by rw [HCR.out, decide_eq_true_eq]; omega), hins.out]
                skip
              · rcases Nat.lt_or_ge j k with h | h
                · exact hall.out j h
                · have e : j = k := by omega
                  rw [e, HSD.out]
                  exact HNZ.out
            case measure => simp [intOf]; omega
        · have z1b : (a == u) = false := by simpa using z1
          have Z1 := Lib.hid z1
          clear z1
          go_wp2
          go_quiet (fail)
          go_wp2
          go_roundw
          case rel =>
            have hb := HB.out
            have hb1 := HB1.out
            have hbk := HBK.out
            refine ⟨k + 1, q, by omega, by go_num, by go_num, by omega, Lib.hid ?_, Lib.hid fun j hj => ?_, (by repeat (first | with_reducible assumption | with_reducible exact Bk.at_ (by simp) | with_reducible refine Bk.alloc ?_ _ | with_reducible refine Bk.drew ?_ | with_reducible refine Bk.drewN ?_ _ | with_reducible refine Bk.step (by with_reducible assumption) ?_ (by first | omega | (simp <;> omega)))), (by repeat (first | with_reducible exact Below.refl _ _ | with_reducible assumption | with_reducible refine Below.drew ?_ | with_reducible refine Below.drewN ?_ _ | with_reducible refine Below.alloc2 ?_ _ | with_reducible refine Below.alloc ?_ (by first | omega | (simp <;> omega)) _ | with_reducible refine Below.setCell ?_ (by first | omega | (simp <;> omega)) _ | with_reducible refine Below.step2 (by with_reducible assumption) ?_ | with_reducible refine Below.step (by with_reducible assumption) ?_ (by first | omega | (simp <;> omega))))⟩
            · rw [HIS.out, if_neg (by rw [HCR.out, decide_eq_true_eq]; exact fun h => Z1.out h.1), hins.out]
              skip
            · rcases Nat.lt_or_ge j k with h | h
              · exact hall.out j h
              · have e : j = k := by omega
                rw [e, HSD.out]
                exact HNZ.out
          case measure => simp [intOf]; omega
      · rw [t1] at HBX
        rcases t2 : betw y d v
        · have HNZ : Hid (distS (sideOf (a, d) (u, v)) x y ≠ 0) := Lib.hid (fun e => by have := HZ.out.1 e; rw [t1, t2] at this; simp at this)
          rw [t2] at HBY
          clear t1 t2
          go_wp2
          have e0 : (w1.alloc (.cells #[.int .i64 u, .int .i64 v] 57)).cell? ⟨w1.heap.size, 0, none⟩ = some (.int .i64 u) := by simp
          have e1 : (w1.alloc (.cells #[.int .i64 u, .int .i64 v] 57)).cell? ⟨w1.heap.size, 1, none⟩ = some (.int .i64 v) := by simp
          have r0 : (w1.alloc (.cells #[.int .i64 u, .int .i64 v] 57)).cell? ⟨b, o + k * 2, none⟩ = some (.int .i64 a) := (World.cell?_alloc_lt w1 _ _ ob1).trans c0
          have r1 : (w1.alloc (.cells #[.int .i64 u, .int .i64 v] 57)).cell? ⟨b, o + k * 2 + 1, none⟩ = some (.int .i64 d) := (World.cell?_alloc_lt w1 _ _ ob1).trans c1
          have s0 : (w1.alloc (.cells #[.int .i64 u, .int .i64 v] 57)).cell? ⟨w.heap.size, 0, none⟩ = some (.int .i64 x) := (World.cell?_alloc_lt w1 _ _ op1).trans p0
          have s1 : (w1.alloc (.cells #[.int .i64 u, .int .i64 v] 57)).cell? ⟨w.heap.size, 1, none⟩ = some (.int .i64 y) := (World.cell?_alloc_lt w1 _ _ op1).trans p1
          go_quiet ((first | (go_at_call_of 65 (Value.int .i64 x); exact quiet_left (HBX.out _)) | (go_at_call_of 65 (Value.int .i64 y); exact quiet_left (HBY.out _))))
          by_cases z1 : a = u
          · have z1b : (a == u) = true := by simpa using z1
            have Z1 := Lib.hid z1
            clear z1
            rcases Int.lt_or_le x a with z2 | z2
            · rcases Int.lt_or_le y (min d v) with z3 | z3
              · have zd : decide (min d v ≤ y) = false := by rw [decide_eq_false_iff_not]; omega
                go_wp2
                go_quiet (fail)
                go_wp2
                go_roundw
                case rel =>
                  have hb := HB.out
                  have hb1 := HB1.out
                  have hbk := HBK.out
                  refine ⟨k + 1, q, by omega, by go_num, by go_num, by omega, Lib.hid ?_, Lib.hid fun j hj => ?_, (by repeat (first | with_reducible assumption | with_reducible exact Bk.at_ (by simp) | with_reducible refine Bk.alloc ?_ _ | with_reducible refine Bk.drew ?_ | with_reducible refine Bk.drewN ?_ _ | with_reducible refine Bk.step (by with_reducible assumption) ?_ (by first | omega | (simp <;> omega)))), (by repeat (first | with_reducible exact Below.refl _ _ | with_reducible assumption | with_reducible refine Below.drew ?_ | with_reducible refine Below.drewN ?_ _ | with_reducible refine Below.alloc2 ?_ _ | with_reducible refine Below.alloc ?_ (by first | omega | (simp <;> omega)) _ | with_reducible refine Below.setCell ?_ (by first | omega | (simp <;> omega)) _ | with_reducible refine Below.step2 (by with_reducible assumption) ?_ | with_reducible refine Below.step (by with_reducible assumption) ?_ (by first | omega | (simp <;> omega))))⟩
                  · rw [HIS.out, if_neg (by rw [HCR.out, decide_eq_true_eq]; omega), hins.out]
                    skip
                  · rcases Nat.lt_or_ge j k with h | h
                    · exact hall.out j h
                    · have e : j = k := by omega
                      rw [e, HSD.out]
                      exact HNZ.out
                case measure => simp [intOf]; omega
              · rcases Int.lt_or_le y (max d v) with z4 | z4
                · go_wp2
                  go_quiet (fail)
                  go_wp2
                  go_roundw
                  case rel =>
                    have hb := HB.out
                    have hb1 := HB1.out
                    have hbk := HBK.out
                    refine ⟨k + 1, q + 1, by omega, by go_num, by go_num, by omega, Lib.hid ?_, Lib.hid fun j hj => ?_, (by repeat (first | with_reducible assumption | with_reducible exact Bk.at_ (by simp) | with_reducible refine Bk.alloc ?_ _ | with_reducible refine Bk.drew ?_ | with_reducible refine Bk.drewN ?_ _ | with_reducible refine Bk.step (by with_reducible assumption) ?_ (by first | omega | (simp <;> omega)))), (by repeat (first | with_reducible exact Below.refl _ _ | with_reducible assumption | with_reducible refine Below.drew ?_ | with_reducible refine Below.drewN ?_ _ | with_reducible refine Below.alloc2 ?_ _ | with_reducible refine Below.alloc ?_ (by first | omega | (simp <;> omega)) _ | with_reducible refine Below.setCell ?_ (by first | omega | (simp <;> omega)) _ | with_reducible refine Below.step2 (by with_reducible assumption) ?_ | with_reducible refine Below.step (by with_reducible assumption) ?_ (by first | omega | (simp <;> omega))))⟩
                    · rw [HIS.out, if_pos (by rw [HCR.out, decide_eq_true_eq]; exact ⟨Z1.out, z2, z3, z4⟩), hins.out]
                      exact (odd_succ q).symm
                    · rcases Nat.lt_or_ge j k with h | h
                      · exact hall.out j h
                      · have e : j = k := by omega
                        rw [e, HSD.out]
                        exact HNZ.out
                  case measure => simp [intOf]; omega
                · go_wp2
                  go_quiet (fail)
                  go_wp2
                  go_roundw
                  case rel =>
                    have hb := HB.out
                    have hb1 := HB1.out
                    have hbk := HBK.out
                    refine ⟨k + 1, q, by omega, by go_num, by go_num, by omega, Lib.hid ?_, Lib.hid fun j hj => ?_, (by repeat (first | with_reducible assumption | with_reducible exact Bk.at_ (by simp) | with_reducible refine Bk.alloc ?_ _ | with_reducible refine Bk.drew ?_ | with_reducible refine Bk.drewN ?_ _ | with_reducible refine Bk.step (by with_reducible assumption) ?_ (by first | omega | (simp <;> omega)))), (by repeat (first | with_reducible exact Below.refl _ _ | with_reducible assumption | with_reducible refine Below.drew ?_ | with_reducible refine Below.drewN ?_ _ | with_reducible refine Below.alloc2 ?_ _ | with_reducible refine Below.alloc ?_ (by first | omega | (simp <;> omega)) _ | with_reducible refine Below.setCell ?_ (by first | omega | (simp <;> omega)) _ | with_reducible refine Below.step2 (by with_reducible assumption) ?_ | with_reducible refine Below.step (by with_reducible assumption) ?_ (by first | omega | (simp <;> omega))))⟩
                    · rw [HIS.out, if_neg (by rw [HCR.out, decide_eq_true_eq]; omega), hins.out]
                      skip
                    · rcases Nat.lt_or_ge j k with h | h
                      · exact hall.out j h
                      · have e : j = k := by omega
                        rw [e, HSD.out]
                        exact HNZ.out
                  case measure => simp [intOf]; omega
            · have zd : decide (x < a) = false := by rw [decide_eq_false_iff_not]; omega
              go_wp2
              go_quiet (fail)
              go_wp2
              go_roundw
              case rel =>
                have hb := HB.out
                have hb1 := HB1.out
                have hbk := HBK.out
                refine ⟨k + 1, q, by omega, by go_num, by go_num, by omega, Lib.hid ?_, Lib.hid fun j hj => ?_, (by repeat (first | with_reducible assumption | with_reducible exact Bk.at_ (by simp) | with_reducible refine Bk.alloc ?_ _ | with_reducible refine Bk.drew ?_ | with_reducible refine Bk.drewN ?_ _ | with_reducible refine Bk.step (by with_reducible assumption) ?_ (by first | omega | (simp <;> omega)))), (by repeat (first | with_reducible exact Below.refl _ _ | with_reducible assumption | with_reducible refine Below.drew ?_ | with_reducible refine Below.drewN ?_ _ | with_reducible refine Below.alloc2 ?_ _ | with_reducible refine Below.alloc ?_ (by first | omega | (simp <;> omega)) _ | with_reducible refine Below.setCell ?_ (by first | omega | (simp <;> omega)) _ | with_reducible refine Below.step2 (by with_reducible assumption) ?_ | with_reducible refine Below.step (by with_reducible assumption) ?_ (by first | omega | (simp <;> omega))))⟩
                · rw [HIS.out, if_neg (by rw [HCR.out, decide_eq_true_eq]; omega), hins.out]
                  skip
                · rcases Nat.lt_or_ge j k with h | h
                  · exact hall.out j h
                  · have e : j = k := by omega
                    rw [e, HSD.out]
                    exact HNZ.out
              case measure => simp [intOf]; omega
          · have z1b : (a == u) = false := by simpa using z1
            have Z1 := Lib.hid z1
            clear z1
            go_wp2
            go_quiet (fail)
            go_wp2
            go_roundw
            case rel =>
              have hb := HB.out
              have hb1 := HB1.out
              have hbk := HBK.out
              refine ⟨k + 1, q, by omega, by go_num, by go_num, by omega, Lib.hid ?_, Lib.hid fun j hj => ?_, (by repeat (first | with_reducible assumption | with_reducible exact Bk.at_ (by simp) | with_reducible refine Bk.alloc ?_ _ | with_reducible refine Bk.drew ?_ | with_reducible refine Bk.drewN ?_ _ | with_reducible refine Bk.step (by with_reducible assumption) ?_ (by first | omega | (simp <;> omega)))), (by repeat (first | with_reducible exact Below.refl _ _ | with_reducible assumption | with_reducible refine Below.drew ?_ | with_reducible refine Below.drewN ?_ _ | with_reducible refine Below.alloc2 ?_ _ | with_reducible refine Below.alloc ?_ (by first | omega | (simp <;> omega)) _ | with_reducible refine Below.setCell ?_ (by first | omega | (simp <;> omega)) _ | with_reducible refine Below.step2 (by with_reducible assumption) ?_ | with_reducible refine Below.step (by with_reducible assumption) ?_ (by first | omega | (simp <;> omega))))⟩
              · rw [HIS.out, if_neg (by rw [HCR.out, decide_eq_true_eq]; exact fun h => Z1.out h.1), hins.out]
                skip
              · rcases Nat.lt_or_ge j k with h | h
                · exact hall.out j h
                · have e : j = k := by omega
                  rw [e, HSD.out]
                  exact HNZ.out
            case measure => simp [intOf]; omega
        · have HON : Hid (whereS (sides l) x y = 0) := Lib.hid (by
            unfold whereS
            rw [if_pos (onS_true (k := k) (by rw [sides_length, HLEN.out]; exact hlt) (by rw [HSD.out]; exact HZ.out.2 (by rw [t1, t2]; rfl)))])
          rw [t2] at HBY
          clear t1 t2
          go_wp2
          have e0 : (w1.alloc (.cells #[.int .i64 u, .int .i64 v] 57)).cell? ⟨w1.heap.size, 0, none⟩ = some (.int .i64 u) := by simp
          have e1 : (w1.alloc (.cells #[.int .i64 u, .int .i64 v] 57)).cell? ⟨w1.heap.size, 1, none⟩ = some (.int .i64 v) := by simp
          have r0 : (w1.alloc (.cells #[.int .i64 u, .int .i64 v] 57)).cell? ⟨b, o + k * 2, none⟩ = some (.int .i64 a) := (World.cell?_alloc_lt w1 _ _ ob1).trans c0
          have r1 : (w1.alloc (.cells #[.int .i64 u, .int .i64 v] 57)).cell? ⟨b, o + k * 2 + 1, none⟩ = some (.int .i64 d) := (World.cell?_alloc_lt w1 _ _ ob1).trans c1
          have s0 : (w1.alloc (.cells #[.int .i64 u, .int .i64 v] 57)).cell? ⟨w.heap.size, 0, none⟩ = some (.int .i64 x) := (World.cell?_alloc_lt w1 _ _ op1).trans p0
          have s1 : (w1.alloc (.cells #[.int .i64 u, .int .i64 v] 57)).cell? ⟨w.heap.size, 1, none⟩ = some (.int .i64 y) := (World.cell?_alloc_lt w1 _ _ op1).trans p1
          go_quiet ((first | (go_at_call_of 65 (Value.int .i64 x); exact quiet_left (HBX.out _)) | (go_at_call_of 65 (Value.int .i64 y); exact quiet_left (HBY.out _))))
          go_wp2
          go_ret
          have hb := HB.out
          have hb1 := HB1.out
          exact ⟨(by repeat (first | with_reducible exact Below.refl _ _ | with_reducible assumption | with_reducible refine Below.drew ?_ | with_reducible refine Below.drewN ?_ _ | with_reducible refine Below.alloc2 ?_ _ | with_reducible refine Below.alloc ?_ (by first | omega | (simp <;> omega)) _ | with_reducible refine Below.setCell ?_ (by first | omega | (simp <;> omega)) _ | with_reducible refine Below.step2 (by with_reducible assumption) ?_ | with_reducible refine Below.step (by with_reducible assumption) ?_ (by first | omega | (simp <;> omega)))), ret_int HON.out.symm⟩
    · have e : k = n := by omega
      have HW : Hid (whereS (sides l) x y = odd q) := Lib.hid (by
        unfold whereS
        rw [if_neg (by rw [onS_false (fun j hj => hall.out j (by rw [sides_length, HLEN.out] at hj; omega))]; simp), sides_length, HLEN.out, ← e]
        exact hins.out)
      have HB := Lib.hid hb
      clear hb hbk e
      by_cases hq : q % 2 = 1
      · have hq2 : ((q : Int) % 2 == 1) = true := by simp; omega
        have ho1 : Hid (odd q = 1) := Lib.hid (by unfold odd; rw [if_pos hq])
        clear hq
        go_wp2
        go_ret
        exact ⟨HB.out, ret_int (by rw [HW.out, ho1.out])⟩
      · have hq2 : ((q : Int) % 2 == 1) = false := by simp; omega
        have ho1 : Hid (odd q = -1) := Lib.hid (by unfold odd; rw [if_neg hq])
        clear hq
        go_wp2
        go_ret
        exact ⟨HB.out, ret_int (by rw [HW.out, ho1.out])⟩

end Go.Proofs.Ytbfbjpnmgcpjlaa
