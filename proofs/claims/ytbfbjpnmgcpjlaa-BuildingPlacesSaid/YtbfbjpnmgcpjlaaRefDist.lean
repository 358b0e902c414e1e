/- The walk of the reference's Distance. -/
import Derived.Test.YtbfbjpnmgcpjlaaRefWhere
namespace Go.Proofs.Ytbfbjpnmgcpjlaa
open Go.RowKit

theorem sq_mono {x : Int} (h1 : 0 ≤ x) (h2 : x ≤ 2000000) : 0 ≤ x * x ∧ x * x ≤ 4000000000000 := by
  have := sq_bd (x := x) 2000000 (by omega) (by omega)
  omega
theorem outI_le {n a b : Int} (h1 : -1000000 ≤ n ∧ n ≤ 1000000) (h2 : -1000000 ≤ a ∧ a ≤ 1000000) (h3 : -1000000 ≤ b ∧ b ≤ 1000000) : outI n a b ≤ 2000000 := by unfold outI; omega

/-- The least distance so far, -1 before the first. -/
def bestTo (ss : List Side) (x y : Int) (k : Nat) : Int := if k = 0 then -1 else leastTo ss x y k

set_option maxRecDepth 100000 in
set_option maxHeartbeats 8000000 in
theorem refDistance_any (A : Option Addr) (n c : Nat) (l : List (Int × Int)) (x y : Int) (w : World) (h : Pts w w.heap.size A n c l) (hin : l.all inP = true) (hn : 0 < n) (hv : ∀ k, k < n → dirP (pt l k) (pt l (nx l k)) ≠ -1)
    (hx : -1000000 ≤ x ∧ x ≤ 1000000) (hy : -1000000 ≤ y ∧ y ≤ 1000000) :
    Calls Try.prog 34 #[.slice A n c, .agg #[.int .i64 x, .int .i64 y]] w fun e w' => Below w.heap.size w w' ∧ e = .returned (.int .i64 (distR (sides l) x y)) := by
  have hcap := h.cap
  have hmax := h.max
  have HLEN := Lib.hid h.len
  have HV := Lib.hid hv
  have HIN := Lib.hid hin
  have HXB := Lib.hid hx
  have HYB := Lib.hid hy
  have H : Hid (∀ w', Below w.heap.size w w' → Pts w' w'.heap.size A n c l) := fun w' hb => h.below hb (Nat.le_refl _) hb.size
  have H0 : Hid (∀ w', Below w.heap.size w w' → Pts w' w.heap.size A n c l) := fun w' hb => h.below hb (Nat.le_refl _) (Nat.le_refl _)
  have HW := Lib.hid (fun (W : World) (hp : Pts W W.heap.size A n c l) => refWhere_any A n c l x y W hp hv)
  have HDR : Hid (distR (sides l) x y = if 0 ≤ whereS (sides l) x y then 0 else leastTo (sides l) x y n) := Lib.hid (by unfold distR; rw [sides_length, h.len])
  clear h hv hin hx hy
  by_cases hw : 0 ≤ whereS (sides l) x y
  · rw [HDR.out, if_pos hw]
    generalize whereS (sides l) x y = R at *
    go_enter Try.func34, Try.ntmps34
    go_wp2_with fail
    refine (HW.out _ (H.out _ (by repeat (first | with_reducible exact Below.refl _ _ | with_reducible assumption | with_reducible refine Below.drew ?_ | with_reducible refine Below.drewN ?_ _ | with_reducible refine Below.alloc2 ?_ _ | with_reducible refine Below.alloc ?_ (by first | omega | (simp <;> omega)) _ | with_reducible refine Below.setCell ?_ (by first | omega | (simp <;> omega)) _ | with_reducible refine Below.step2 (by with_reducible assumption) ?_ | with_reducible refine Below.step (by with_reducible assumption) ?_ (by first | omega | (simp <;> omega)))))).mono ?_
    rintro e w1 ⟨hb1, rfl⟩; obtain ⟨hc1, hf1⟩ := bcell hb1; have hz1 := hb1.size; (try simp at hz1)
    go_wp2
    go_ret
    exact ⟨(by repeat (first | with_reducible exact Below.refl _ _ | with_reducible assumption | with_reducible refine Below.drew ?_ | with_reducible refine Below.drewN ?_ _ | with_reducible refine Below.alloc2 ?_ _ | with_reducible refine Below.alloc ?_ (by first | omega | (simp <;> omega)) _ | with_reducible refine Below.setCell ?_ (by first | omega | (simp <;> omega)) _ | with_reducible refine Below.step2 (by with_reducible assumption) ?_ | with_reducible refine Below.step (by with_reducible assumption) ?_ (by first | omega | (simp <;> omega)))), rfl⟩
  · have hw2 : whereS (sides l) x y < 0 := by omega
    rw [HDR.out, if_neg hw]
    generalize whereS (sides l) x y = R at *
    clear hw HDR
    go_enter Try.func34, Try.ntmps34
    go_wp2_with fail
    refine (HW.out _ (H.out _ (by repeat (first | with_reducible exact Below.refl _ _ | with_reducible assumption | with_reducible refine Below.drew ?_ | with_reducible refine Below.drewN ?_ _ | with_reducible refine Below.alloc2 ?_ _ | with_reducible refine Below.alloc ?_ (by first | omega | (simp <;> omega)) _ | with_reducible refine Below.setCell ?_ (by first | omega | (simp <;> omega)) _ | with_reducible refine Below.step2 (by with_reducible assumption) ?_ | with_reducible refine Below.step (by with_reducible assumption) ?_ (by first | omega | (simp <;> omega)))))).mono ?_
    rintro e w1 ⟨hb1, rfl⟩; obtain ⟨hc1, hf1⟩ := bcell hb1; have hz1 := hb1.size; (try simp at hz1)
    have k1 : Bk w1 w.heap.size 57 #[.int .i64 x, .int .i64 y] := (by repeat (first | with_reducible assumption | with_reducible exact Bk.at_ (by simp) | with_reducible refine Bk.alloc ?_ _ | with_reducible refine Bk.drew ?_ | with_reducible refine Bk.drewN ?_ _ | with_reducible refine Bk.step (by with_reducible assumption) ?_ (by first | omega | (simp <;> omega))))
    have HB1 : Hid (Below w.heap.size w w1) := Lib.hid (by repeat (first | with_reducible exact Below.refl _ _ | with_reducible assumption | with_reducible refine Below.drew ?_ | with_reducible refine Below.drewN ?_ _ | with_reducible refine Below.alloc2 ?_ _ | with_reducible refine Below.alloc ?_ (by first | omega | (simp <;> omega)) _ | with_reducible refine Below.setCell ?_ (by first | omega | (simp <;> omega)) _ | with_reducible refine Below.step2 (by with_reducible assumption) ?_ | with_reducible refine Below.step (by with_reducible assumption) ?_ (by first | omega | (simp <;> omega))))
    have HK1 := Lib.hid k1
    clear hb1 hc1 hf1 k1
    go_wp2
    go_loopw [5, 6] (fun s i wr => ∃ k : Nat, k ≤ n ∧ i = .int .i64 k ∧ s = .int .i64 (bestTo (sides l) x y k) ∧ Bk wr w.heap.size 57 #[.int .i64 x, .int .i64 y] ∧ Below w.heap.size w wr) (fun _ i _ => n - (intOf i).toNat)
    case atStart => exact ⟨0, Nat.zero_le _, rfl, rfl, HK1.out, HB1.out⟩
    case round =>
      obtain ⟨k, hk, rfl, rfl, hbk, hb⟩ := hrel
      obtain ⟨⟨p0, p1⟩, -⟩ := hbk.two
      have ho := hbk.lt
      have hsz := hb.size
      by_cases hlt : k < n
      · have hkl : k < l.length := by rw [HLEN.out]; exact hlt
        have hj : nx l k < n := by have := nx_lt hkl; rwa [HLEN.out] at this
        obtain ⟨b, o, a, d, rfl, hbb, hx, c0, c1⟩ := (H0.out _ hb).at_ hlt
        obtain ⟨b', o', u, v, e, hbb', hu, -, -⟩ := (H0.out _ hb).at_ hj
        have q1 := pt_in HIN.out hx
        have q2 := pt_in HIN.out hu
        have hdir := HV.out k hlt
        rw [pt_of hx, pt_of hu] at hdir
        have HSD : Hid (distS (sd (sides l) k) x y = outI x a u * outI x a u + outI y d v * outI y d v) := Lib.hid (by rw [sides_sd hkl, ← distS_out hdir]; unfold sideK; rw [pt_of hx, pt_of hu])
        have hnx := next_any (some ⟨b, o, none⟩) n c k l wr (H.out _ hb) hlt
        rw [pt_of hu] at hnx
        have HNX := Lib.hid hnx
        have HB := Lib.hid hb
        have HBK := Lib.hid hbk
        have HOX := Lib.hid (fun W : World => out_any x a u W HXB.out q1.1 q2.1)
        have HOY := Lib.hid (fun W : World => out_any y d v W HYB.out q1.2 q2.2)
        have s1 := sq_mono (outI_bd x a u) (outI_le HXB.out q1.1 q2.1)
        have s2 := sq_mono (outI_bd y d v) (outI_le HYB.out q1.2 q2.2)
        have hlb := leastTo_bd (allB_sides HIN.out) (x := x) (y := y) (by rw [sides_length, HLEN.out]; exact hn) HXB.out HYB.out
        have ob : b < wr.heap.size := by omega
        have op : w.heap.size < wr.heap.size := by omega
        have HBS : Hid (bestTo (sides l) x y (k + 1) = if k = 0 ∨ outI x a u * outI x a u + outI y d v * outI y d v < bestTo (sides l) x y k then outI x a u * outI x a u + outI y d v * outI y d v else bestTo (sides l) x y k) := Lib.hid (by
          unfold bestTo
          rw [if_neg (by omega)]
          simp only [leastTo]
          rw [HSD.out]
          by_cases hk0 : k = 0
          · subst hk0
            rw [if_pos (.inl rfl)]
            simp only [leastTo]
            rw [HSD.out]
            omega
          · rw [if_neg hk0]
            split <;> omega)
        have HBB : Hid ((k = 0 → bestTo (sides l) x y k = -1) ∧ (k ≠ 0 → 0 ≤ bestTo (sides l) x y k)) := Lib.hid (by
          unfold bestTo
          refine ⟨fun h => if_pos h, fun h => ?_⟩
          rw [if_neg h]
          exact (hlb k (by rw [sides_length, HLEN.out]; exact hk)).1)
        clear hx hu hb hbk e hnx hbb' hkl hdir q1 q2 hlb
        generalize outI x a u = X at *
        generalize outI y d v = Y at *
        generalize bestTo (sides l) x y k = T at *
        obtain ⟨s11, s12⟩ := s1
        obtain ⟨s21, s22⟩ := s2
        go_wp2_with fail
        refine HNX.out.mono ?_
        rintro e w2 ⟨hb2, rfl⟩
        obtain ⟨hc2, -⟩ := bcell hb2
        have hz2 := hb2.size
        replace c0 := (hc2 _ _ ob).trans c0
        replace c1 := (hc2 _ _ ob).trans c1
        replace p0 := (hc2 _ _ op).trans p0
        replace p1 := (hc2 _ _ op).trans p1
        have ob1 : b < w2.heap.size := by omega
        have op1 : w.heap.size < w2.heap.size := by omega
        have HB2 := Lib.hid hb2
        clear hb2 hc2 ob op
        go_wp2
        go_quiet ((first | (go_at_call_of 66 (Value.int .i64 x); exact quiet_left (HOX.out _)) | (go_at_call_of 66 (Value.int .i64 y); exact quiet_left (HOY.out _))))
        by_cases hk0 : k = 0
        · have hT := HBB.out.1 hk0
          have HK0 := Lib.hid hk0
          subst hT
          clear hk0
          go_wp2
          go_roundw
          case rel =>
            have hb := HB.out
            have hb2 := HB2.out
            have hbk := HBK.out
            exact ⟨k + 1, by omega, by go_num, by rw [HBS.out, if_pos (.inl HK0.out)], (by repeat (first | with_reducible assumption | with_reducible exact Bk.at_ (by simp) | with_reducible refine Bk.alloc ?_ _ | with_reducible refine Bk.drew ?_ | with_reducible refine Bk.drewN ?_ _ | with_reducible refine Bk.step (by with_reducible assumption) ?_ (by first | omega | (simp <;> omega)))), (by repeat (first | with_reducible exact Below.refl _ _ | with_reducible assumption | with_reducible refine Below.drew ?_ | with_reducible refine Below.drewN ?_ _ | with_reducible refine Below.alloc2 ?_ _ | with_reducible refine Below.alloc ?_ (by first | omega | (simp <;> omega)) _ | with_reducible refine Below.setCell ?_ (by first | omega | (simp <;> omega)) _ | with_reducible refine Below.step2 (by with_reducible assumption) ?_ | with_reducible refine Below.step (by with_reducible assumption) ?_ (by first | omega | (simp <;> omega))))⟩
          case measure => simp [intOf]; omega
        · have hT := HBB.out.2 hk0
          have HK0 := Lib.hid hk0
          clear hk0
          rcases Int.lt_or_le (X * X + Y * Y) T with z | z
          · go_wp2
            go_roundw
            case rel =>
              have hb := HB.out
              have hb2 := HB2.out
              have hbk := HBK.out
              exact ⟨k + 1, by omega, by go_num, by rw [HBS.out, if_pos (.inr z)], (by repeat (first | with_reducible assumption | with_reducible exact Bk.at_ (by simp) | with_reducible refine Bk.alloc ?_ _ | with_reducible refine Bk.drew ?_ | with_reducible refine Bk.drewN ?_ _ | with_reducible refine Bk.step (by with_reducible assumption) ?_ (by first | omega | (simp <;> omega)))), (by repeat (first | with_reducible exact Below.refl _ _ | with_reducible assumption | with_reducible refine Below.drew ?_ | with_reducible refine Below.drewN ?_ _ | with_reducible refine Below.alloc2 ?_ _ | with_reducible refine Below.alloc ?_ (by first | omega | (simp <;> omega)) _ | with_reducible refine Below.setCell ?_ (by first | omega | (simp <;> omega)) _ | with_reducible refine Below.step2 (by with_reducible assumption) ?_ | with_reducible refine Below.step (by with_reducible assumption) ?_ (by first | omega | (simp <;> omega))))⟩
            case measure => simp [intOf]; omega
          · have HNEG : Hid (¬ (k = 0 ∨ X * X + Y * Y < T)) := Lib.hid (fun h => h.elim HK0.out (fun h => by omega))
            go_wp2
            go_roundw
            case rel =>
              have hb := HB.out
              have hb2 := HB2.out
              have hbk := HBK.out
              exact ⟨k + 1, by omega, by go_num, by rw [HBS.out, if_neg HNEG.out], (by repeat (first | with_reducible assumption | with_reducible exact Bk.at_ (by simp) | with_reducible refine Bk.alloc ?_ _ | with_reducible refine Bk.drew ?_ | with_reducible refine Bk.drewN ?_ _ | with_reducible refine Bk.step (by with_reducible assumption) ?_ (by first | omega | (simp <;> omega)))), (by repeat (first | with_reducible exact Below.refl _ _ | with_reducible assumption | with_reducible refine Below.drew ?_ | with_reducible refine Below.drewN ?_ _ | with_reducible refine Below.alloc2 ?_ _ | with_reducible refine Below.alloc ?_ (by first | omega | (simp <;> omega)) _ | with_reducible refine Below.setCell ?_ (by first | omega | (simp <;> omega)) _ | with_reducible refine Below.step2 (by with_reducible assumption) ?_ | with_reducible refine Below.step (by with_reducible assumption) ?_ (by first | omega | (simp <;> omega))))⟩
            case measure => simp [intOf]; omega
      · have e : k = n := by omega
        have HBS : Hid (bestTo (sides l) x y k = leastTo (sides l) x y n) := Lib.hid (by unfold bestTo; rw [if_neg (by omega), e])
        have HB := Lib.hid hb
        clear hb hbk e
        go_wp2
        go_ret
        exact ⟨HB.out, ret_int HBS.out⟩

end Go.Proofs.Ytbfbjpnmgcpjlaa
