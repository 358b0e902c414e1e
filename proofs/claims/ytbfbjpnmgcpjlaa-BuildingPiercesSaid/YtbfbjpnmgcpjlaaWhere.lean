/- The walk of where. -/
import Derived.Test.YtbfbjpnmgcpjlaaMeasure
namespace Go.Proofs.Ytbfbjpnmgcpjlaa
open Go.RowKit

/-- A ray from (x, y) to the east crosses side s. -/
def crB (s : Side) (x y : Int) : Bool := decide (min s.y1 s.y2 ≤ y ∧ y < max s.y1 s.y2 ∧ x < s.x1)
/-- -1, turned at each of the first k sides that are crossed. -/
def insTo (ss : List Side) (x y : Int) : Nat → Int
  | 0 => -1
  | k + 1 => if crB (sd ss k) x y = true then -insTo ss x y k else insTo ss x y k
theorem insTo_or (ss : List Side) (x y : Int) : ∀ k, insTo ss x y k = 1 ∨ insTo ss x y k = -1
  | 0 => .inr rfl
  | k + 1 => by
    have := insTo_or ss x y k
    simp only [insTo]
    split <;> omega
/-- The place is on a side. -/
def onS (ss : List Side) (x y : Int) : Bool := (List.range ss.length).any fun k => decide (distS (sd ss k) x y = 0)
theorem onS_true {ss : List Side} {x y : Int} {k : Nat} (hk : k < ss.length) (h : distS (sd ss k) x y = 0) : onS ss x y = true := by
  unfold onS
  rw [List.any_eq_true]
  exact ⟨k, by simpa using hk, by simpa using h⟩
theorem onS_false {ss : List Side} {x y : Int} (h : ∀ k, k < ss.length → distS (sd ss k) x y ≠ 0) : onS ss x y = false := by
  unfold onS
  rw [List.any_eq_false]
  intro k hk
  simpa using h k (by simpa using hk)
/-- Where a place is: 1, 0, -1. -/
def whereS (ss : List Side) (x y : Int) : Int := if onS ss x y = true then 0 else insTo ss x y ss.length

/-- All sides are within bounds. -/
def AllB (ss : List Side) : Prop := ∀ k, k < ss.length → Bds (sd ss k)

set_option maxRecDepth 100000 in
set_option maxHeartbeats 4000000 in
theorem where_any (A : Option Addr) (n c : Nat) (ss : List Side) (x y : Int) (w : World) (h : Walls w w.heap.size A n c ss) (hB : AllB ss) (hx : -1000000 ≤ x ∧ x ≤ 1000000) (hy : -1000000 ≤ y ∧ y ≤ 1000000) :
    Calls Try.prog 63 #[.slice A n c, .agg #[.int .i64 x, .int .i64 y]] w fun e w' => Below w.heap.size w w' ∧ e = .returned (.int .i64 (whereS ss x y)) := by
  have hcap := h.cap
  have hmax := h.max
  have HLEN := Lib.hid h.len
  have H : Hid (∀ w', Below w.heap.size w w' → Walls w' w'.heap.size A n c ss) := fun w' hb => h.below hb (Nat.le_refl _) hb.size
  have HAB := Lib.hid hB
  have HX := Lib.hid hx
  have HY := Lib.hid hy
  clear h hB hx hy
  go_enter Try.func63, Try.ntmps63
  go_wp2
  go_loopw [5, 12] (fun s i wr => ∃ k : Nat, k ≤ n ∧ i = .int .i64 k ∧ s = .int .i64 (insTo ss x y k) ∧ Hid (∀ j, j < k → distS (sd ss j) x y ≠ 0) ∧ Bk wr w.heap.size 57 #[.int .i64 x, .int .i64 y] ∧ Below w.heap.size w wr) (fun _ i _ => n - (intOf i).toNat)
  case atStart => exact ⟨0, Nat.zero_le _, rfl, rfl, fun j hj => absurd hj (by omega), (by repeat (first | with_reducible assumption | with_reducible exact Bk.at_ (by simp) | with_reducible refine Bk.alloc ?_ _ | with_reducible refine Bk.drew ?_ | with_reducible refine Bk.drewN ?_ _ | with_reducible refine Bk.step (by with_reducible assumption) ?_ (by first | omega | (simp <;> omega)))), (by repeat (first | with_reducible exact Below.refl _ _ | with_reducible assumption | with_reducible refine Below.drew ?_ | with_reducible refine Below.drewN ?_ _ | with_reducible refine Below.alloc2 ?_ _ | with_reducible refine Below.alloc ?_ (by first | omega | (simp <;> omega)) _ | with_reducible refine Below.setCell ?_ (by first | omega | (simp <;> omega)) _ | with_reducible refine Below.step2 (by with_reducible assumption) ?_ | with_reducible refine Below.step (by with_reducible assumption) ?_ (by first | omega | (simp <;> omega))))⟩
  case round =>
    obtain ⟨k, hk, rfl, rfl, hall, hbk, hb⟩ := hrel
    obtain ⟨⟨p0, p1⟩, -⟩ := hbk.two
    have ho := hbk.lt
    have hsz := hb.size
    by_cases hlt : k < n
    · obtain ⟨b, o, s, rfl, hbb, hs, c0, c1, c2, c3, c4, c5⟩ := (H.out _ hb).at_ hlt
      have HS := Lib.hid (sd_of hs)
      have hbs : Bds s := by have := HAB.out k (by rw [HLEN.out]; exact hlt); rwa [HS.out] at this
      have HDI := Lib.hid (fun W : World => distance_any s.x1 s.y1 s.x2 s.y2 s.len s.dir x y W hbs HX.out HY.out)
      have HB := Lib.hid hb
      have HBK := Lib.hid hbk
      have hins := insTo_or ss x y k
      have hi1 : -1 ≤ insTo ss x y k := by omega
      have hi2 : insTo ss x y k ≤ 1 := by omega
      have HIS : Hid (insTo ss x y (k + 1) = if crB s x y = true then -insTo ss x y k else insTo ss x y k) := Lib.hid (by simp only [insTo]; rw [HS.out])
      clear hs hbs hb hbk hins
      generalize insTo ss x y k = I at *
      have HZ : Hid (distS ⟨s.x1, s.y1, s.x2, s.y2, s.len, s.dir⟩ x y = distS (sd ss k) x y) := Lib.hid (by rw [HS.out])
      generalize distS ⟨s.x1, s.y1, s.x2, s.y2, s.len, s.dir⟩ x y = D at *
      by_cases hD : D = 0
      · subst hD
        go_wp2_with fail
        refine (HDI.out _).mono ?_
        rintro e w1 ⟨hb1, rfl⟩; obtain ⟨hc1, hf1⟩ := bcell hb1; have hz1 := hb1.size; (try simp at hz1)
        go_wp2
        go_ret
        have hb := HB.out
        refine ⟨(by repeat (first | with_reducible exact Below.refl _ _ | with_reducible assumption | with_reducible refine Below.drew ?_ | with_reducible refine Below.drewN ?_ _ | with_reducible refine Below.alloc2 ?_ _ | with_reducible refine Below.alloc ?_ (by first | omega | (simp <;> omega)) _ | with_reducible refine Below.setCell ?_ (by first | omega | (simp <;> omega)) _ | with_reducible refine Below.step2 (by with_reducible assumption) ?_ | with_reducible refine Below.step (by with_reducible assumption) ?_ (by first | omega | (simp <;> omega)))), ret_int ?_⟩
        unfold whereS
        rw [if_pos (onS_true (by rw [HLEN.out]; exact hlt) HZ.out.symm)]
      · have hD2 : (D == 0) = false := by simpa using hD
        have HD := Lib.hid hD
        clear hD
        have HSP := Lib.hid (fun W : World => span_any s.x1 s.y1 s.x2 s.y2 s.len s.dir W)
        have hcr : crB s x y = decide (min s.y1 s.y2 ≤ y ∧ y < max s.y1 s.y2 ∧ x < s.x1) := rfl
        have HCR := Lib.hid hcr
        clear hcr
        rcases Int.lt_or_le y (min s.y1 s.y2) with t1 | t1
        · go_wp2_with fail
          refine (HDI.out _).mono ?_
          rintro e w1 ⟨hb1, rfl⟩; obtain ⟨hc1, hf1⟩ := bcell hb1; have hz1 := hb1.size; (try simp at hz1)
          have oA1 : w.heap.size < w1.heap.size := (by omega); have oB1 : w.heap.size + 1 < w1.heap.size := (by omega)
          have oC1 : wr.heap.size < w1.heap.size := by omega
          have HB1 := Lib.hid hb1
          clear hb1
          go_wp2_with fail
          refine (HSP.out _).mono ?_
          rintro e w2 ⟨hb2, rfl⟩; obtain ⟨hc2, hf2⟩ := bcell hb2; have hz2 := hb2.size; (try simp at hz2)
          have oA2 : w.heap.size < w2.heap.size := (by omega); have oB2 : w.heap.size + 1 < w2.heap.size := (by omega)
          have oC2 : wr.heap.size < w2.heap.size := by omega
          have HB2 := Lib.hid hb2
          clear hb2
          go_wp2
          go_roundw
          case rel =>
            have hb := HB.out
            have hb1 := HB1.out
            have hb2 := HB2.out
            refine ⟨k + 1, by omega, by go_num, by rw [HIS.out, if_neg (by rw [HCR.out, decide_eq_true_eq]; omega)], Lib.hid fun j hj => ?_, ?_, (by repeat (first | with_reducible exact Below.refl _ _ | with_reducible assumption | with_reducible refine Below.drew ?_ | with_reducible refine Below.drewN ?_ _ | with_reducible refine Below.alloc2 ?_ _ | with_reducible refine Below.alloc ?_ (by first | omega | (simp <;> omega)) _ | with_reducible refine Below.setCell ?_ (by first | omega | (simp <;> omega)) _ | with_reducible refine Below.step2 (by with_reducible assumption) ?_ | with_reducible refine Below.step (by with_reducible assumption) ?_ (by first | omega | (simp <;> omega))))⟩
            · rcases Nat.lt_or_ge j k with h | h
              · exact hall.out j h
              · have e : j = k := by omega
                rw [e, ← HZ.out]
                exact HD.out
            · have hbk := HBK.out
              exact (by repeat (first | with_reducible assumption | with_reducible exact Bk.at_ (by simp) | with_reducible refine Bk.alloc ?_ _ | with_reducible refine Bk.drew ?_ | with_reducible refine Bk.drewN ?_ _ | with_reducible refine Bk.step (by with_reducible assumption) ?_ (by first | omega | (simp <;> omega))))
          case measure => simp [intOf]; omega
        · rcases Int.lt_or_le y (max s.y1 s.y2) with t2 | t2
          · rcases Int.lt_or_le x s.x1 with t3 | t3
            · go_wp2_with fail
              refine (HDI.out _).mono ?_
              rintro e w1 ⟨hb1, rfl⟩; obtain ⟨hc1, hf1⟩ := bcell hb1; have hz1 := hb1.size; (try simp at hz1)
              have oA1 : w.heap.size < w1.heap.size := (by omega); have oB1 : w.heap.size + 1 < w1.heap.size := (by omega)
              have oC1 : wr.heap.size < w1.heap.size := by omega
              have HB1 := Lib.hid hb1
              clear hb1
              go_wp2_with fail
              refine (HSP.out _).mono ?_
              rintro e w2 ⟨hb2, rfl⟩; obtain ⟨hc2, hf2⟩ := bcell hb2; have hz2 := hb2.size; (try simp at hz2)
              have oA2 : w.heap.size < w2.heap.size := (by omega); have oB2 : w.heap.size + 1 < w2.heap.size := (by omega)
              have oC2 : wr.heap.size < w2.heap.size := by omega
              have HB2 := Lib.hid hb2
              clear hb2
              go_wp2
              go_roundw
              case rel =>
                have hb := HB.out
                have hb1 := HB1.out
                have hb2 := HB2.out
                refine ⟨k + 1, by omega, by go_num, by rw [HIS.out, if_pos (by rw [HCR.out, decide_eq_true_eq]; omega)], Lib.hid fun j hj => ?_, ?_, (by repeat (first | with_reducible exact Below.refl _ _ | with_reducible assumption | with_reducible refine Below.drew ?_ | with_reducible refine Below.drewN ?_ _ | with_reducible refine Below.alloc2 ?_ _ | with_reducible refine Below.alloc ?_ (by first | omega | (simp <;> omega)) _ | with_reducible refine Below.setCell ?_ (by first | omega | (simp <;> omega)) _ | with_reducible refine Below.step2 (by with_reducible assumption) ?_ | with_reducible refine Below.step (by with_reducible assumption) ?_ (by first | omega | (simp <;> omega))))⟩
                · rcases Nat.lt_or_ge j k with h | h
                  · exact hall.out j h
                  · have e : j = k := by omega
                    rw [e, ← HZ.out]
                    exact HD.out
                · have hbk := HBK.out
                  exact (by repeat (first | with_reducible assumption | with_reducible exact Bk.at_ (by simp) | with_reducible refine Bk.alloc ?_ _ | with_reducible refine Bk.drew ?_ | with_reducible refine Bk.drewN ?_ _ | with_reducible refine Bk.step (by with_reducible assumption) ?_ (by first | omega | (simp <;> omega))))
              case measure => simp [intOf]; omega
            · go_wp2_with fail
              refine (HDI.out _).mono ?_
              rintro e w1 ⟨hb1, rfl⟩; obtain ⟨hc1, hf1⟩ := bcell hb1; have hz1 := hb1.size; (try simp at hz1)
              have oA1 : w.heap.size < w1.heap.size := (by omega); have oB1 : w.heap.size + 1 < w1.heap.size := (by omega)
              have oC1 : wr.heap.size < w1.heap.size := by omega
              have HB1 := Lib.hid hb1
              clear hb1
              go_wp2_with fail
              refine (HSP.out _).mono ?_
              rintro e w2 ⟨hb2, rfl⟩; obtain ⟨hc2, hf2⟩ := bcell hb2; have hz2 := hb2.size; (try simp at hz2)
              have oA2 : w.heap.size < w2.heap.size := (by omega); have oB2 : w.heap.size + 1 < w2.heap.size := (by omega)
              have oC2 : wr.heap.size < w2.heap.size := by omega
              have HB2 := Lib.hid hb2
              clear hb2
              go_wp2
              go_roundw
              case rel =>
                have hb := HB.out
                have hb1 := HB1.out
                have hb2 := HB2.out
                refine ⟨k + 1, by omega, by go_num, by rw [HIS.out, if_neg (by rw [HCR.out, decide_eq_true_eq]; omega)], Lib.hid fun j hj => ?_, ?_, (by repeat (first | with_reducible exact Below.refl _ _ | with_reducible assumption | with_reducible refine Below.drew ?_ | with_reducible refine Below.drewN ?_ _ | with_reducible refine Below.alloc2 ?_ _ | with_reducible refine Below.alloc ?_ (by first | omega | (simp <;> omega)) _ | with_reducible refine Below.setCell ?_ (by first | omega | (simp <;> omega)) _ | with_reducible refine Below.step2 (by with_reducible assumption) ?_ | with_reducible refine Below.step (by with_reducible assumption) ?_ (by first | omega | (simp <;> omega))))⟩
                · rcases Nat.lt_or_ge j k with h | h
                  · exact hall.out j h
                  · have e : j = k := by omega
                    rw [e, ← HZ.out]
                    exact HD.out
                · have hbk := HBK.out
                  exact (by repeat (first | with_reducible assumption | with_reducible exact Bk.at_ (by simp) | with_reducible refine Bk.alloc ?_ _ | with_reducible refine Bk.drew ?_ | with_reducible refine Bk.drewN ?_ _ | with_reducible refine Bk.step (by with_reducible assumption) ?_ (by first | omega | (simp <;> omega))))
              case measure => simp [intOf]; omega
          · go_wp2_with fail
            refine (HDI.out _).mono ?_
            rintro e w1 ⟨hb1, rfl⟩; obtain ⟨hc1, hf1⟩ := bcell hb1; have hz1 := hb1.size; (try simp at hz1)
            have oA1 : w.heap.size < w1.heap.size := (by omega); have oB1 : w.heap.size + 1 < w1.heap.size := (by omega)
            have oC1 : wr.heap.size < w1.heap.size := by omega
            have HB1 := Lib.hid hb1
            clear hb1
            go_wp2_with fail
            refine (HSP.out _).mono ?_
            rintro e w2 ⟨hb2, rfl⟩; obtain ⟨hc2, hf2⟩ := bcell hb2; have hz2 := hb2.size; (try simp at hz2)
            have oA2 : w.heap.size < w2.heap.size := (by omega); have oB2 : w.heap.size + 1 < w2.heap.size := (by omega)
            have oC2 : wr.heap.size < w2.heap.size := by omega
            have HB2 := Lib.hid hb2
            clear hb2
            go_wp2
            go_roundw
            case rel =>
              have hb := HB.out
              have hb1 := HB1.out
              have hb2 := HB2.out
              refine ⟨k + 1, by omega, by go_num, by rw [HIS.out, if_neg (by rw [HCR.out, decide_eq_true_eq]; omega)], Lib.hid fun j hj => ?_, ?_, (by repeat (first | with_reducible exact Below.refl _ _ | with_reducible assumption | with_reducible refine Below.drew ?_ | with_reducible refine Below.drewN ?_ _ | with_reducible refine Below.alloc2 ?_ _ | with_reducible refine Below.alloc ?_ (by first | omega | (simp <;> omega)) _ | with_reducible refine Below.setCell ?_ (by first | omega | (simp <;> omega)) _ | with_reducible refine Below.step2 (by with_reducible assumption) ?_ | with_reducible refine Below.step (by with_reducible assumption) ?_ (by first | omega | (simp <;> omega))))⟩
              · rcases Nat.lt_or_ge j k with h | h
                · exact hall.out j h
                · have e : j = k := by omega
                  rw [e, ← HZ.out]
                  exact HD.out
              · have hbk := HBK.out
                exact (by repeat (first | with_reducible assumption | with_reducible exact Bk.at_ (by simp) | with_reducible refine Bk.alloc ?_ _ | with_reducible refine Bk.drew ?_ | with_reducible refine Bk.drewN ?_ _ | with_reducible refine Bk.step (by with_reducible assumption) ?_ (by first | omega | (simp <;> omega))))
            case measure => simp [intOf]; omega
    · have e : k = n := by omega
      have HB := Lib.hid hb
      have HE : Hid (whereS ss x y = insTo ss x y k) := Lib.hid (by unfold whereS; rw [if_neg (by rw [onS_false (fun j hj => hall.out j (by rw [e, ← HLEN.out]; exact hj))]; simp), HLEN.out, e])
      clear e hb hbk
      go_wp2
      go_ret
      exact ⟨HB.out, ret_int HE.out.symm⟩

end Go.Proofs.Ytbfbjpnmgcpjlaa
