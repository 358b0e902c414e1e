/- The walk of Pierces. -/
import Derived.Test.YtbfbjpnmgcpjlaaWithin
namespace Go.Proofs.Ytbfbjpnmgcpjlaa
open Go.RowKit

def nodesErr (e na nb : Int) : Int := if e = 0 then (if na = 0 then nb else na) else e
/-- What the inside of a box and a line tell: the stretches of the three axes. -/
def str3 (x1 y1 z1 x2 y2 z2 a1 a2 a3 b1 b2 b3 : Int) : Fr2 × Fr2 := withinP (withinP (withinP ((-1, 1), (2, 1)) a1 b1 x1 x2) a2 b2 y1 y2) a3 b3 z1 z2
def piercesP (x1 y1 z1 x2 y2 z2 a1 a2 a3 b1 b2 b3 : Int) : Bool := endP (str3 x1 y1 z1 x2 y2 z2 a1 a2 a3 b1 b2 b3).1 (str3 x1 y1 z1 x2 y2 z2 a1 a2 a3 b1 b2 b3).2

theorem nodeErr_ok {x y z : Int} (h : nodeErr x y z = 0) : Co x ∧ Co y ∧ Co z := by
  unfold nodeErr at h
  split at h
  · rename_i e
    simp only [Bool.and_eq_true, inB_iff] at e
    exact ⟨e.1.1, e.1.2, e.2⟩
  · omega
theorem boxErr_ok {x1 y1 z1 x2 y2 z2 : Int} (h : boxErr x1 y1 z1 x2 y2 z2 = 0) : (Co x1 ∧ Co y1 ∧ Co z1) ∧ Co x2 ∧ Co y2 ∧ Co z2 := by
  rcases e : [x1, y1, z1, x2, y2, z2].all inB
  · rw [boxErr_out e] at h; omega
  · simp only [List.all_cons, List.all_nil, Bool.and_true, Bool.and_eq_true, inB_iff] at e
    exact ⟨⟨e.1, e.2.1, e.2.2.1⟩, e.2.2.2.1, e.2.2.2.2.1, e.2.2.2.2.2⟩

theorem Bk.three {w : World} {g t : Nat} {a b c : Value} (h : Bk w g t #[a, b, c]) :
    (w.cell? ⟨g, 0, none⟩ = some a ∧ w.cell? ⟨g, 1, none⟩ = some b ∧ w.cell? ⟨g, 2, none⟩ = some c) := ⟨by simpa using h.cell 0, by simpa using h.cell 1, by simpa using h.cell 2⟩

set_option maxHeartbeats 2000000 in
theorem pierces_box (x1 y1 z1 x2 y2 z2 a1 a2 a3 b1 b2 b3 : Int) (w : World) (h : boxErr x1 y1 z1 x2 y2 z2 ≠ 0) :
    Calls Try.prog 16 #[.agg #[.int .i64 x1, .int .i64 y1, .int .i64 z1, .int .i64 x2, .int .i64 y2, .int .i64 z2], .agg #[.int .i64 a1, .int .i64 a2, .int .i64 a3], .agg #[.int .i64 b1, .int .i64 b2, .int .i64 b3]] w fun e w' => Below w.heap.size w w' ∧ e = .returned (.tuple #[.bool false, .int .i64 (boxErr x1 y1 z1 x2 y2 z2)]) := by
  have HC := Lib.hid (fun W : World => checkBox_any x1 y1 z1 x2 y2 z2 W)
  have hne : (boxErr x1 y1 z1 x2 y2 z2 != 0) = true := by simpa using h
  generalize boxErr x1 y1 z1 x2 y2 z2 = E at *
  clear h
  go_enter Try.func16, Try.ntmps16
  go_wp2_with fail
  refine (HC.out _).mono ?_
  rintro e w1 ⟨hb1, rfl⟩
  go_wp2
  go_ret2
  exact ⟨(by repeat (first | with_reducible exact Below.refl _ _ | with_reducible assumption | with_reducible refine Below.drew ?_ | with_reducible refine Below.drewN ?_ _ | with_reducible refine Below.alloc2 ?_ _ | with_reducible refine Below.alloc ?_ (by first | omega | (simp <;> omega)) _ | with_reducible refine Below.setCell ?_ (by first | omega | (simp <;> omega)) _ | with_reducible refine Below.step2 (by with_reducible assumption) ?_ | with_reducible refine Below.step (by with_reducible assumption) ?_ (by first | omega | (simp <;> omega)))), rfl⟩

set_option maxRecDepth 100000 in
set_option maxHeartbeats 4000000 in
theorem pierces_any (x1 y1 z1 x2 y2 z2 a1 a2 a3 b1 b2 b3 : Int) (w : World) (h : boxErr x1 y1 z1 x2 y2 z2 = 0) :
    Calls Try.prog 16 #[.agg #[.int .i64 x1, .int .i64 y1, .int .i64 z1, .int .i64 x2, .int .i64 y2, .int .i64 z2], .agg #[.int .i64 a1, .int .i64 a2, .int .i64 a3], .agg #[.int .i64 b1, .int .i64 b2, .int .i64 b3]] w fun e w' => Below w.heap.size w w' ∧ e = .returned (.tuple #[.bool (nodesErr 0 (nodeErr a1 a2 a3) (nodeErr b1 b2 b3) == 0 && piercesP x1 y1 z1 x2 y2 z2 a1 a2 a3 b1 b2 b3), .int .i64 (nodesErr 0 (nodeErr a1 a2 a3) (nodeErr b1 b2 b3))]) := by
  have HC := Lib.hid (fun W : World => checkBox_any x1 y1 z1 x2 y2 z2 W)
  rw [h] at HC
  obtain ⟨⟨cx1, cy1, cz1⟩, cx2, cy2, cz2⟩ := boxErr_ok h
  have HCO : Hid ((Co x1 ∧ Co y1 ∧ Co z1) ∧ Co x2 ∧ Co y2 ∧ Co z2) := Lib.hid ⟨⟨cx1, cy1, cz1⟩, cx2, cy2, cz2⟩
  have HNA := Lib.hid (fun W : World => nodeError_any a1 a2 a3 W)
  have HNB := Lib.hid (fun W : World => nodeError_any b1 b2 b3 W)
  have HOA := Lib.hid (fun (e : nodeErr a1 a2 a3 = 0) => nodeErr_ok e)
  have HOB := Lib.hid (fun (e : nodeErr b1 b2 b3 = 0) => nodeErr_ok e)
  clear h cx1 cy1 cz1 cx2 cy2 cz2
  go_enter Try.func16, Try.ntmps16
  go_wp2_with fail
  refine (HC.out _).mono ?_
  rintro e w1 ⟨hb1, rfl⟩
  have k1 : Bk w1 w.heap.size 23 #[.int .i64 x1, .int .i64 y1, .int .i64 z1, .int .i64 x2, .int .i64 y2, .int .i64 z2] := (by repeat (first | with_reducible assumption | with_reducible exact Bk.at_ (by simp) | with_reducible refine Bk.alloc ?_ _ | with_reducible refine Bk.drew ?_ | with_reducible refine Bk.drewN ?_ _ | with_reducible refine Bk.step (by with_reducible assumption) ?_ (by first | omega | (simp <;> omega))))
  have k2 : Bk w1 (w.heap.size + 1) 36 #[.int .i64 a1, .int .i64 a2, .int .i64 a3] := (by repeat (first | with_reducible assumption | with_reducible exact Bk.at_ (by simp) | with_reducible refine Bk.alloc ?_ _ | with_reducible refine Bk.drew ?_ | with_reducible refine Bk.drewN ?_ _ | with_reducible refine Bk.step (by with_reducible assumption) ?_ (by first | omega | (simp <;> omega))))
  have k3 : Bk w1 (w.heap.size + 1 + 1) 36 #[.int .i64 b1, .int .i64 b2, .int .i64 b3] := (by repeat (first | with_reducible assumption | with_reducible exact Bk.at_ (by simp) | with_reducible refine Bk.alloc ?_ _ | with_reducible refine Bk.drew ?_ | with_reducible refine Bk.drewN ?_ _ | with_reducible refine Bk.step (by with_reducible assumption) ?_ (by first | omega | (simp <;> omega))))
  have z3 := k3.lt
  have z1' := k1.lt
  have z2' := k2.lt
  have HB1 : Hid (Below w.heap.size w w1) := Lib.hid (by repeat (first | with_reducible exact Below.refl _ _ | with_reducible assumption | with_reducible refine Below.drew ?_ | with_reducible refine Below.drewN ?_ _ | with_reducible refine Below.alloc2 ?_ _ | with_reducible refine Below.alloc ?_ (by first | omega | (simp <;> omega)) _ | with_reducible refine Below.setCell ?_ (by first | omega | (simp <;> omega)) _ | with_reducible refine Below.step2 (by with_reducible assumption) ?_ | with_reducible refine Below.step (by with_reducible assumption) ?_ (by first | omega | (simp <;> omega))))
  obtain ⟨⟨_, _, _, _, _, _⟩, -⟩ := k1.six
  obtain ⟨_, _, _⟩ := k2.three
  obtain ⟨_, _, _⟩ := k3.three
  have KX : Hid (∀ w', Below w1.heap.size w1 w' → Bk w' w.heap.size 23 #[.int .i64 x1, .int .i64 y1, .int .i64 z1, .int .i64 x2, .int .i64 y2, .int .i64 z2] ∧ Bk w' (w.heap.size + 1) 36 #[.int .i64 a1, .int .i64 a2, .int .i64 a3] ∧ Bk w' (w.heap.size + 1 + 1) 36 #[.int .i64 b1, .int .i64 b2, .int .i64 b3]) := fun w' hb => ⟨k1.below hb z1', k2.below hb z2', k3.below hb z3⟩
  clear hb1 k1 k2 k3
  go_wp2
  go_loopw [22] (fun i wr => ∃ k : Nat, k ≤ 2 ∧ i = .int .i64 k ∧ (0 < k → nodeErr a1 a2 a3 = 0) ∧ (1 < k → nodeErr b1 b2 b3 = 0) ∧ Bk wr w1.heap.size 36 #[.int .i64 a1, .int .i64 a2, .int .i64 a3, .int .i64 b1, .int .i64 b2, .int .i64 b3] ∧ Below w1.heap.size w1 wr) (fun i _ => 2 - (intOf i).toNat)
  case atStart => exact ⟨0, by omega, rfl, fun h => absurd h (by omega), fun h => absurd h (by omega), (by repeat (first | with_reducible assumption | with_reducible exact Bk.at_ (by simp) | with_reducible refine Bk.alloc ?_ _ | with_reducible refine Bk.drew ?_ | with_reducible refine Bk.drewN ?_ _ | with_reducible refine Bk.step (by with_reducible assumption) ?_ (by first | omega | (simp <;> omega)))), (by repeat (first | with_reducible exact Below.refl _ _ | with_reducible assumption | with_reducible refine Below.drew ?_ | with_reducible refine Below.drewN ?_ _ | with_reducible refine Below.alloc2 ?_ _ | with_reducible refine Below.alloc ?_ (by first | omega | (simp <;> omega)) _ | with_reducible refine Below.setCell ?_ (by first | omega | (simp <;> omega)) _ | with_reducible refine Below.step2 (by with_reducible assumption) ?_ | with_reducible refine Below.step (by with_reducible assumption) ?_ (by first | omega | (simp <;> omega))))⟩
  case round =>
    obtain ⟨k, hk, rfl, hea, heb, hbk, hb⟩ := hrel
    have hgo := hbk.lt
    have hz := hb.size
    by_cases hlt : k < 2
    · have key : ∃ x y z : Int, wr.cell? ⟨w1.heap.size, k * 3, none⟩ = some (.int .i64 x) ∧ wr.cell? ⟨w1.heap.size, k * 3 + 1, none⟩ = some (.int .i64 y) ∧ wr.cell? ⟨w1.heap.size, k * 3 + 2, none⟩ = some (.int .i64 z) ∧ nodeErr x y z = (if k = 0 then nodeErr a1 a2 a3 else nodeErr b1 b2 b3) := by
        obtain ⟨⟨g0, g1, g2, g3, g4, g5⟩, -⟩ := hbk.six
        rcases (by omega : k = 0 ∨ k = 1) with rfl | rfl
        · exact ⟨a1, a2, a3, g0, g1, g2, rfl⟩
        · exact ⟨b1, b2, b3, g3, g4, g5, rfl⟩
      obtain ⟨x, y, z, g0, g1, g2, hn⟩ := key
      have HN := Lib.hid (fun W : World => nodeError_any x y z W)
      have HNE := Lib.hid hn
      have HEA := Lib.hid hea
      have HB := Lib.hid hb
      have HBK := Lib.hid hbk
      clear hn hea heb hb hbk
      by_cases hE : nodeErr x y z = 0
      · have HE := Lib.hid hE
        rw [hE] at HN
        clear hE
        go_wp2_with fail
        refine (HN.out _).mono ?_
        rintro e w2 ⟨hb2, rfl⟩
        go_wp2
        go_roundw
        case rel =>
          have hb := HB.out
          have hbk := HBK.out
          refine ⟨k + 1, by omega, by go_num, fun _ => ?_, fun h => ?_, (by repeat (first | with_reducible assumption | with_reducible exact Bk.at_ (by simp) | with_reducible refine Bk.alloc ?_ _ | with_reducible refine Bk.drew ?_ | with_reducible refine Bk.drewN ?_ _ | with_reducible refine Bk.step (by with_reducible assumption) ?_ (by first | omega | (simp <;> omega)))), (by repeat (first | with_reducible exact Below.refl _ _ | with_reducible assumption | with_reducible refine Below.drew ?_ | with_reducible refine Below.drewN ?_ _ | with_reducible refine Below.alloc2 ?_ _ | with_reducible refine Below.alloc ?_ (by first | omega | (simp <;> omega)) _ | with_reducible refine Below.setCell ?_ (by first | omega | (simp <;> omega)) _ | with_reducible refine Below.step2 (by with_reducible assumption) ?_ | with_reducible refine Below.step (by with_reducible assumption) ?_ (by first | omega | (simp <;> omega))))⟩
          · rcases Nat.eq_zero_or_pos k with h0 | h0
            · have := HNE.out; rw [if_pos h0, HE.out] at this; exact this.symm
            · exact HEA.out h0
          · have := HNE.out; rw [if_neg (by omega), HE.out] at this; exact this.symm
        case measure => simp [intOf]; omega
      · have hne : (nodeErr x y z != 0) = true := by simpa using hE
        have HR : Hid (nodesErr 0 (nodeErr a1 a2 a3) (nodeErr b1 b2 b3) = nodeErr x y z) := Lib.hid (by
          have := HNE.out
          unfold nodesErr
          rw [if_pos rfl]
          by_cases h0 : k = 0
          · rw [if_pos h0] at this
            rw [if_neg (by rw [← this]; exact hE), this]
          · rw [if_neg h0] at this
            rw [if_pos (HEA.out (by omega)), this])
        have HE2 : Hid ((nodeErr x y z == 0) = false) := Lib.hid (by simpa using hE)
        clear hE
        go_wp2_with fail
        refine (HN.out _).mono ?_
        rintro e w2 ⟨hb2, rfl⟩
        go_wp2
        go_ret2
        have hb := HB.out
        have hb1 := HB1.out
        exact ⟨(by repeat (first | with_reducible exact Below.refl _ _ | with_reducible assumption | with_reducible refine Below.drew ?_ | with_reducible refine Below.drewN ?_ _ | with_reducible refine Below.alloc2 ?_ _ | with_reducible refine Below.alloc ?_ (by first | omega | (simp <;> omega)) _ | with_reducible refine Below.setCell ?_ (by first | omega | (simp <;> omega)) _ | with_reducible refine Below.step2 (by with_reducible assumption) ?_ | with_reducible refine Below.step (by with_reducible assumption) ?_ (by first | omega | (simp <;> omega)))), by rw [HR.out, HE2.out]; rfl⟩
    · have ea := hea (by omega)
      have eb := heb (by omega)
      have HR : Hid (nodesErr 0 (nodeErr a1 a2 a3) (nodeErr b1 b2 b3) = 0) := Lib.hid (by unfold nodesErr; rw [if_pos rfl, if_pos ea, eb])
      obtain ⟨ca1, ca2, ca3⟩ := HOA.out ea
      obtain ⟨cb1, cb2, cb3⟩ := HOB.out eb
      obtain ⟨⟨cx1, cy1, cz1⟩, cx2, cy2, cz2⟩ := HCO.out
      have HB := Lib.hid hb
      have f0 : Fine (-1, 1) := by unfold Fine; simp only; omega
      have f1 : Fine (2, 1) := by unfold Fine; simp only; omega
      have W1 := Lib.hid (fun W : World => within_any2 ((-1, 1), (2, 1)) a1 b1 x1 x2 W f0 f1 ca1 cb1 cx1 cx2)
      obtain ⟨g1, g2⟩ := fine_within (s := ((-1, 1), (2, 1))) f0 f1 ca1 cb1 cx1 cx2
      have HP : Hid (piercesP x1 y1 z1 x2 y2 z2 a1 a2 a3 b1 b2 b3 = endP (withinP (withinP (withinP ((-1, 1), (2, 1)) a1 b1 x1 x2) a2 b2 y1 y2) a3 b3 z1 z2).1 (withinP (withinP (withinP ((-1, 1), (2, 1)) a1 b1 x1 x2) a2 b2 y1 y2) a3 b3 z1 z2).2) := Lib.hid rfl
      generalize withinP ((-1, 1), (2, 1)) a1 b1 x1 x2 = s1 at *
      have W2 := Lib.hid (fun W : World => within_any2 s1 a2 b2 y1 y2 W g1 g2 ca2 cb2 cy1 cy2)
      obtain ⟨g3, g4⟩ := fine_within (s := s1) g1 g2 ca2 cb2 cy1 cy2
      generalize withinP s1 a2 b2 y1 y2 = s2 at *
      have W3 := Lib.hid (fun W : World => within_any2 s2 a3 b3 z1 z2 W g3 g4 ca3 cb3 cz1 cz2)
      obtain ⟨g5, g6⟩ := fine_within (s := s2) g3 g4 ca3 cb3 cz1 cz2
      generalize withinP s2 a3 b3 z1 z2 = s3 at *
      have L1 := Lib.hid (fun W : World => less_any s3.1 s3.2 W g5 g6)
      have L2 := Lib.hid (fun W : World => less_any s3.1 (1, 1) W g5 (by unfold Fine; simp only; omega))
      have L3 := Lib.hid (fun W : World => less_any (0, 1) s3.2 W (by unfold Fine; simp only; omega) g6)
      obtain ⟨kx, ka, kb⟩ := KX.out wr hb
      obtain ⟨⟨_, _, _, _, _, _⟩, -⟩ := kx.six
      obtain ⟨_, _, _⟩ := ka.three
      obtain ⟨_, _, _⟩ := kb.three
      have ox := kx.lt
      have oa := ka.lt
      have ob := kb.lt
      clear hb hbk hea heb f0 f1 g1 g2 g3 g4 g5 g6 ca1 ca2 ca3 cb1 cb2 cb3 cx1 cy1 cz1 cx2 cy2 cz2 ea eb kx ka kb HOA HOB HCO HNA HNB HC
      go_wp2_with fail
      refine (W1.out _).mono ?_
      rintro e w3 ⟨hb3, rfl⟩
      have HB3 : Hid (Below w1.heap.size w1 w3) := Lib.hid (by have hb := HB.out; exact (by repeat (first | with_reducible exact Below.refl _ _ | with_reducible assumption | with_reducible refine Below.drew ?_ | with_reducible refine Below.drewN ?_ _ | with_reducible refine Below.alloc2 ?_ _ | with_reducible refine Below.alloc ?_ (by first | omega | (simp <;> omega)) _ | with_reducible refine Below.setCell ?_ (by first | omega | (simp <;> omega)) _ | with_reducible refine Below.step2 (by with_reducible assumption) ?_ | with_reducible refine Below.step (by with_reducible assumption) ?_ (by first | omega | (simp <;> omega)))))
      have q3 : Bk w3 wr.heap.size 84 #[.int .i64 (-1), .int .i64 1, .int .i64 2, .int .i64 1] := Bk.step hb3 (Bk.at_ rfl) (by simp)
      have Q3 := Lib.hid q3
      obtain ⟨⟨_, _, _, _⟩, _, _, _, _⟩ := q3.four
      obtain ⟨kx, ka, kb⟩ := KX.out w3 HB3.out
      obtain ⟨⟨_, _, _, _, _, _⟩, -⟩ := kx.six
      obtain ⟨_, _, _⟩ := ka.three
      obtain ⟨_, _, _⟩ := kb.three
      have ox3 := kx.lt
      have oa3 := ka.lt
      have ob3 := kb.lt
      have oq3 := q3.lt
      clear kx ka kb q3 hb3
      go_wp2_with fail
      refine (W2.out _).mono ?_
      rintro e w4 ⟨hb4, rfl⟩
      have HB4 : Hid (Below w1.heap.size w1 w4) := Lib.hid (by have hb := HB3.out; exact (by repeat (first | with_reducible exact Below.refl _ _ | with_reducible assumption | with_reducible refine Below.drew ?_ | with_reducible refine Below.drewN ?_ _ | with_reducible refine Below.alloc2 ?_ _ | with_reducible refine Below.alloc ?_ (by first | omega | (simp <;> omega)) _ | with_reducible refine Below.setCell ?_ (by first | omega | (simp <;> omega)) _ | with_reducible refine Below.step2 (by with_reducible assumption) ?_ | with_reducible refine Below.step (by with_reducible assumption) ?_ (by first | omega | (simp <;> omega)))))
      have q4 : Bk w4 wr.heap.size 84 #[.int .i64 s1.1.1, .int .i64 s1.1.2, .int .i64 s1.2.1, .int .i64 s1.2.2] := Bk.step hb4 ((((Q3.out.set_ 0 _).set_ 1 _).set_ 2 _).set_ 3 _) (by first | (simp; omega) | (simp [World.setCell]; omega))
      have Q4 := Lib.hid q4
      obtain ⟨⟨_, _, _, _⟩, _, _, _, _⟩ := q4.four
      obtain ⟨kx, ka, kb⟩ := KX.out w4 HB4.out
      obtain ⟨⟨_, _, _, _, _, _⟩, -⟩ := kx.six
      obtain ⟨_, _, _⟩ := ka.three
      obtain ⟨_, _, _⟩ := kb.three
      have ox4 := kx.lt
      have oa4 := ka.lt
      have ob4 := kb.lt
      have oq4 := q4.lt
      clear kx ka kb q4 hb4
      go_wp2_with fail
      refine (W3.out _).mono ?_
      rintro e w5 ⟨hb5, rfl⟩
      have HB5 : Hid (Below w1.heap.size w1 w5) := Lib.hid (by have hb := HB4.out; exact (by repeat (first | with_reducible exact Below.refl _ _ | with_reducible assumption | with_reducible refine Below.drew ?_ | with_reducible refine Below.drewN ?_ _ | with_reducible refine Below.alloc2 ?_ _ | with_reducible refine Below.alloc ?_ (by first | omega | (simp <;> omega)) _ | with_reducible refine Below.setCell ?_ (by first | omega | (simp <;> omega)) _ | with_reducible refine Below.step2 (by with_reducible assumption) ?_ | with_reducible refine Below.step (by with_reducible assumption) ?_ (by first | omega | (simp <;> omega)))))
      have q5 : Bk w5 wr.heap.size 84 #[.int .i64 s2.1.1, .int .i64 s2.1.2, .int .i64 s2.2.1, .int .i64 s2.2.2] := Bk.step hb5 ((((Q4.out.set_ 0 _).set_ 1 _).set_ 2 _).set_ 3 _) (by first | (simp; omega) | (simp [World.setCell]; omega))
      have Q5 := Lib.hid q5
      obtain ⟨⟨_, _, _, _⟩, _, _, _, _⟩ := q5.four
      obtain ⟨kx, ka, kb⟩ := KX.out w5 HB5.out
      obtain ⟨⟨_, _, _, _, _, _⟩, -⟩ := kx.six
      obtain ⟨_, _, _⟩ := ka.three
      obtain ⟨_, _, _⟩ := kb.three
      have ox5 := kx.lt
      have oa5 := ka.lt
      have ob5 := kb.lt
      have oq5 := q5.lt
      clear kx ka kb q5 hb5
      have hep : Hid (endP s3.1 s3.2 = (lessP s3.1 s3.2 && lessP s3.1 (1, 1) && lessP (0, 1) s3.2)) := Lib.hid rfl
      rcases t1 : lessP s3.1 s3.2
      · rw [t1] at L1
        have hr : Hid (piercesP x1 y1 z1 x2 y2 z2 a1 a2 a3 b1 b2 b3 = false) := Lib.hid (by rw [HP.out, hep.out, t1]; rfl)
        clear t1
        go_wp2_with fail
        refine (L1.out _).mono ?_
        rintro e w6 ⟨hb6, rfl⟩
        have HB6 : Hid (Below w1.heap.size w1 w6) := Lib.hid (by have hb := HB5.out; exact (by repeat (first | with_reducible exact Below.refl _ _ | with_reducible assumption | with_reducible refine Below.drew ?_ | with_reducible refine Below.drewN ?_ _ | with_reducible refine Below.alloc2 ?_ _ | with_reducible refine Below.alloc ?_ (by first | omega | (simp <;> omega)) _ | with_reducible refine Below.setCell ?_ (by first | omega | (simp <;> omega)) _ | with_reducible refine Below.step2 (by with_reducible assumption) ?_ | with_reducible refine Below.step (by with_reducible assumption) ?_ (by first | omega | (simp <;> omega)))))
        have hq6 := Bk.step hb6 ((((Q5.out.set_ 0 _).set_ 1 _).set_ 2 _).set_ 3 _) (by first | omega | (simp; omega) | (simp [World.setCell]; omega))
        obtain ⟨⟨_, _, _, _⟩, _, _, _, _⟩ := Bk.four (a := .int .i64 s3.1.1) (b := .int .i64 s3.1.2) (c := .int .i64 s3.2.1) (d := .int .i64 s3.2.2) hq6
        have oq6 := Bk.lt hq6
        have Q6 := Lib.hid hq6
        clear hb6 hq6
        go_wp2
        go_ret2
        have hb1 := HB1.out
        refine ⟨?_, by rw [HR.out, hr.out]; rfl⟩
        first
          | (have hb := HB8.out; exact hb1.trans (hb.mono hb1.size))
          | (have hb := HB7.out; exact hb1.trans (hb.mono hb1.size))
          | (have hb := HB6.out; exact hb1.trans (hb.mono hb1.size))
      · rw [t1] at L1
        rcases t2 : lessP s3.1 (1, 1)
        · rw [t2] at L2
          have hr : Hid (piercesP x1 y1 z1 x2 y2 z2 a1 a2 a3 b1 b2 b3 = false) := Lib.hid (by rw [HP.out, hep.out, t1, t2]; rfl)
          clear t1 t2
          go_wp2_with fail
          refine (L1.out _).mono ?_
          rintro e w6 ⟨hb6, rfl⟩
          have HB6 : Hid (Below w1.heap.size w1 w6) := Lib.hid (by have hb := HB5.out; exact (by repeat (first | with_reducible exact Below.refl _ _ | with_reducible assumption | with_reducible refine Below.drew ?_ | with_reducible refine Below.drewN ?_ _ | with_reducible refine Below.alloc2 ?_ _ | with_reducible refine Below.alloc ?_ (by first | omega | (simp <;> omega)) _ | with_reducible refine Below.setCell ?_ (by first | omega | (simp <;> omega)) _ | with_reducible refine Below.step2 (by with_reducible assumption) ?_ | with_reducible refine Below.step (by with_reducible assumption) ?_ (by first | omega | (simp <;> omega)))))
          have hq6 := Bk.step hb6 ((((Q5.out.set_ 0 _).set_ 1 _).set_ 2 _).set_ 3 _) (by first | omega | (simp; omega) | (simp [World.setCell]; omega))
          obtain ⟨⟨_, _, _, _⟩, _, _, _, _⟩ := Bk.four (a := .int .i64 s3.1.1) (b := .int .i64 s3.1.2) (c := .int .i64 s3.2.1) (d := .int .i64 s3.2.2) hq6
          have oq6 := Bk.lt hq6
          have Q6 := Lib.hid hq6
          clear hb6 hq6
          go_wp2_with fail
          refine (L2.out _).mono ?_
          rintro e w7 ⟨hb7, rfl⟩
          have HB7 : Hid (Below w1.heap.size w1 w7) := Lib.hid (by have hb := HB6.out; exact (by repeat (first | with_reducible exact Below.refl _ _ | with_reducible assumption | with_reducible refine Below.drew ?_ | with_reducible refine Below.drewN ?_ _ | with_reducible refine Below.alloc2 ?_ _ | with_reducible refine Below.alloc ?_ (by first | omega | (simp <;> omega)) _ | with_reducible refine Below.setCell ?_ (by first | omega | (simp <;> omega)) _ | with_reducible refine Below.step2 (by with_reducible assumption) ?_ | with_reducible refine Below.step (by with_reducible assumption) ?_ (by first | omega | (simp <;> omega)))))
          have hq7 := Bk.step hb7 Q6.out (by first | omega | (simp; omega) | (simp [World.setCell]; omega))
          obtain ⟨⟨_, _, _, _⟩, _, _, _, _⟩ := Bk.four (a := .int .i64 s3.1.1) (b := .int .i64 s3.1.2) (c := .int .i64 s3.2.1) (d := .int .i64 s3.2.2) hq7
          have oq7 := Bk.lt hq7
          have Q7 := Lib.hid hq7
          clear hb7 hq7
          go_wp2
          go_ret2
          have hb1 := HB1.out
          refine ⟨?_, by rw [HR.out, hr.out]; rfl⟩
          first
            | (have hb := HB8.out; exact hb1.trans (hb.mono hb1.size))
            | (have hb := HB7.out; exact hb1.trans (hb.mono hb1.size))
            | (have hb := HB6.out; exact hb1.trans (hb.mono hb1.size))
        · rw [t2] at L2
          rcases t3 : lessP (0, 1) s3.2
          all_goals
            have hr : Hid (piercesP x1 y1 z1 x2 y2 z2 a1 a2 a3 b1 b2 b3 = lessP (0, 1) s3.2) := Lib.hid (by rw [HP.out, hep.out, t1, t2]; rfl)
            rw [t3] at L3 hr
            clear t1 t2 t3
            go_wp2_with fail
            refine (L1.out _).mono ?_
            rintro e w6 ⟨hb6, rfl⟩
            have HB6 : Hid (Below w1.heap.size w1 w6) := Lib.hid (by have hb := HB5.out; exact (by repeat (first | with_reducible exact Below.refl _ _ | with_reducible assumption | with_reducible refine Below.drew ?_ | with_reducible refine Below.drewN ?_ _ | with_reducible refine Below.alloc2 ?_ _ | with_reducible refine Below.alloc ?_ (by first | omega | (simp <;> omega)) _ | with_reducible refine Below.setCell ?_ (by first | omega | (simp <;> omega)) _ | with_reducible refine Below.step2 (by with_reducible assumption) ?_ | with_reducible refine Below.step (by with_reducible assumption) ?_ (by first | omega | (simp <;> omega)))))
            have hq6 := Bk.step hb6 ((((Q5.out.set_ 0 _).set_ 1 _).set_ 2 _).set_ 3 _) (by first | omega | (simp; omega) | (simp [World.setCell]; omega))
            obtain ⟨⟨_, _, _, _⟩, _, _, _, _⟩ := Bk.four (a := .int .i64 s3.1.1) (b := .int .i64 s3.1.2) (c := .int .i64 s3.2.1) (d := .int .i64 s3.2.2) hq6
            have oq6 := Bk.lt hq6
            have Q6 := Lib.hid hq6
            clear hb6 hq6
            go_wp2_with fail
            refine (L2.out _).mono ?_
            rintro e w7 ⟨hb7, rfl⟩
            have HB7 : Hid (Below w1.heap.size w1 w7) := Lib.hid (by have hb := HB6.out; exact (by repeat (first | with_reducible exact Below.refl _ _ | with_reducible assumption | with_reducible refine Below.drew ?_ | with_reducible refine Below.drewN ?_ _ | with_reducible refine Below.alloc2 ?_ _ | with_reducible refine Below.alloc ?_ (by first | omega | (simp <;> omega)) _ | with_reducible refine Below.setCell ?_ (by first | omega | (simp <;> omega)) _ | with_reducible refine Below.step2 (by with_reducible assumption) ?_ | with_reducible refine Below.step (by with_reducible assumption) ?_ (by first | omega | (simp <;> omega)))))
            have hq7 := Bk.step hb7 Q6.out (by first | omega | (simp; omega) | (simp [World.setCell]; omega))
            obtain ⟨⟨_, _, _, _⟩, _, _, _, _⟩ := Bk.four (a := .int .i64 s3.1.1) (b := .int .i64 s3.1.2) (c := .int .i64 s3.2.1) (d := .int .i64 s3.2.2) hq7
            have oq7 := Bk.lt hq7
            have Q7 := Lib.hid hq7
            clear hb7 hq7
            go_wp2_with fail
            refine (L3.out _).mono ?_
            rintro e w8 ⟨hb8, rfl⟩
            have HB8 : Hid (Below w1.heap.size w1 w8) := Lib.hid (by have hb := HB7.out; exact (by repeat (first | with_reducible exact Below.refl _ _ | with_reducible assumption | with_reducible refine Below.drew ?_ | with_reducible refine Below.drewN ?_ _ | with_reducible refine Below.alloc2 ?_ _ | with_reducible refine Below.alloc ?_ (by first | omega | (simp <;> omega)) _ | with_reducible refine Below.setCell ?_ (by first | omega | (simp <;> omega)) _ | with_reducible refine Below.step2 (by with_reducible assumption) ?_ | with_reducible refine Below.step (by with_reducible assumption) ?_ (by first | omega | (simp <;> omega)))))
            have hq8 := Bk.step hb8 Q7.out (by first | omega | (simp; omega) | (simp [World.setCell]; omega))
            obtain ⟨⟨_, _, _, _⟩, _, _, _, _⟩ := Bk.four (a := .int .i64 s3.1.1) (b := .int .i64 s3.1.2) (c := .int .i64 s3.2.1) (d := .int .i64 s3.2.2) hq8
            have oq8 := Bk.lt hq8
            have Q8 := Lib.hid hq8
            clear hb8 hq8
            go_wp2
            go_ret2
            have hb1 := HB1.out
            refine ⟨?_, by rw [HR.out, hr.out]; rfl⟩
            first
              | (have hb := HB8.out; exact hb1.trans (hb.mono hb1.size))
              | (have hb := HB7.out; exact hb1.trans (hb.mono hb1.size))
              | (have hb := HB6.out; exact hb1.trans (hb.mono hb1.size))

end Go.Proofs.Ytbfbjpnmgcpjlaa
