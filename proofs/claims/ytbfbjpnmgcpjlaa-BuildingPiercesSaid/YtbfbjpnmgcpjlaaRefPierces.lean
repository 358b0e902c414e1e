/- The walk of the reference's Pierces. -/
import Derived.Test.YtbfbjpnmgcpjlaaPierces
import Derived.Deep.CutBlock
import Derived.Deep.DeepCutAuto
import Derived.Deep.LoopGhost
namespace Go.Proofs.Ytbfbjpnmgcpjlaa
open Go.RowKit

abbrev fcells (p : Fr2) : Array Value := #[.int .i64 p.1, .int .i64 p.2]
/-- Six shares in blocks of their own. -/
def SixB (w : World) (tp : Nat) (r s t u F T : Fr2) (P10 P11 P13 P14 P16 P17 : Value) (wx : World) : Prop :=
  ∃ b10 b11 b13 b14 bF bT, P10 = .pointer (some ⟨b10, 0, none⟩) ∧ P11 = .pointer (some ⟨b11, 0, none⟩) ∧ P13 = .pointer (some ⟨b13, 0, none⟩) ∧ P14 = .pointer (some ⟨b14, 0, none⟩) ∧ P16 = .pointer (some ⟨bF, 0, none⟩) ∧ P17 = .pointer (some ⟨bT, 0, none⟩) ∧
    Bk wx b10 tp (fcells r) ∧ Bk wx b11 tp (fcells s) ∧ Bk wx b13 tp (fcells t) ∧ Bk wx b14 tp (fcells u) ∧ Bk wx bF tp (fcells F) ∧ Bk wx bT tp (fcells T) ∧
    (b10 < b11 ∧ b11 < b13 ∧ b13 < b14 ∧ b14 < bF ∧ b14 < bT ∧ bF ≠ bT) ∧ w.heap.size ≤ b10 ∧ Below w.heap.size w wx

theorem maxP_no {f r : Fr2} (h : lessP f r = false) : maxP f r = f := by unfold maxP; rw [if_neg (by rw [h]; simp)]
theorem maxP_yes {f r : Fr2} (h : lessP f r = true) : maxP f r = r := by unfold maxP; rw [if_pos h]
theorem minP_no {f r : Fr2} (h : lessP r f = false) : minP f r = f := by unfold minP; rw [if_neg (by rw [h]; simp)]
theorem minP_yes {f r : Fr2} (h : lessP r f = true) : minP f r = r := by unfold minP; rw [if_pos h]
/-- The six shares behind an if. -/
def SixC (w : World) (tp b10 b11 b13 b14 bF bT : Nat) (r s t u F T : Fr2) (wx : World) : Prop :=
  Bk wx b10 tp (fcells r) ∧ Bk wx b11 tp (fcells s) ∧ Bk wx b13 tp (fcells t) ∧ Bk wx b14 tp (fcells u) ∧ Bk wx bF tp (fcells F) ∧ Bk wx bT tp (fcells T) ∧ Below w.heap.size w wx
theorem SixC.setF {w wx : World} {tp b10 b11 b13 b14 bF bT : Nat} {r s t u F T : Fr2} (h : SixC w tp b10 b11 b13 b14 bF bT r s t u F T wx) (G : Fr2) (hd : b10 < b11 ∧ b11 < b13 ∧ b13 < b14 ∧ b14 < bF ∧ b14 < bT ∧ bF ≠ bT) (hw : w.heap.size ≤ b10) :
    SixC w tp b10 b11 b13 b14 bF bT r s t u G T ((wx.setCell ⟨bF, 0, none⟩ (.int .i64 G.1)).setCell ⟨bF, 1, none⟩ (.int .i64 G.2)) := by
  obtain ⟨kr, ks, kt, ku, kF, kT, hb⟩ := h
  obtain ⟨d1, d2, d3, d4, d5, d6⟩ := hd
  exact ⟨(kr.other (by simp; omega) _).other (by simp; omega) _, (ks.other (by simp; omega) _).other (by simp; omega) _, (kt.other (by simp; omega) _).other (by simp; omega) _, (ku.other (by simp; omega) _).other (by simp; omega) _,
    (kF.set_ 0 _).set_ 1 _, (kT.other (by simp; omega) _).other (by simp; omega) _, (hb.setCell (by simp; omega) _).setCell (by simp; omega) _⟩
theorem SixC.setT {w wx : World} {tp b10 b11 b13 b14 bF bT : Nat} {r s t u F T : Fr2} (h : SixC w tp b10 b11 b13 b14 bF bT r s t u F T wx) (G : Fr2) (hd : b10 < b11 ∧ b11 < b13 ∧ b13 < b14 ∧ b14 < bF ∧ b14 < bT ∧ bF ≠ bT) (hw : w.heap.size ≤ b10) :
    SixC w tp b10 b11 b13 b14 bF bT r s t u F G ((wx.setCell ⟨bT, 0, none⟩ (.int .i64 G.1)).setCell ⟨bT, 1, none⟩ (.int .i64 G.2)) := by
  obtain ⟨kr, ks, kt, ku, kF, kT, hb⟩ := h
  obtain ⟨d1, d2, d3, d4, d5, d6⟩ := hd
  exact ⟨(kr.other (by simp; omega) _).other (by simp; omega) _, (ks.other (by simp; omega) _).other (by simp; omega) _, (kt.other (by simp; omega) _).other (by simp; omega) _, (ku.other (by simp; omega) _).other (by simp; omega) _,
    (kF.other (by simp; omega) _).other (by simp; omega) _, (kT.set_ 0 _).set_ 1 _, (hb.setCell (by simp; omega) _).setCell (by simp; omega) _⟩

/-- What the reference's Pierces tells of three slabs. -/
def refP (S1 S2 S3 : Fr2 × Fr2 × Bool) : Bool := S1.2.2 && S2.2.2 && S3.2.2 && endP (maxP (maxP S1.1 S2.1) S3.1) (minP (minP S1.2.1 S2.2.1) S3.2.1)
theorem slabP_fine {a b lo hi : Int} (ha : Co a) (hb : Co b) (hl : Co lo) (hh : Co hi) : Fine (slabP a b lo hi).1 ∧ Fine (slabP a b lo hi).2.1 := by
  unfold Co at *
  unfold slabP
  split
  · exact ⟨by unfold Fine; simp only; omega, by unfold Fine; simp only; omega⟩
  · split
    · exact ⟨by unfold Fine; simp only; omega, by unfold Fine; simp only; omega⟩
    · exact ⟨by unfold Fine; simp only; omega, by unfold Fine; simp only; omega⟩

set_option maxRecDepth 100000 in
set_option maxHeartbeats 8000000 in
theorem refPierces_any (x1 y1 z1 x2 y2 z2 a1 a2 a3 b1 b2 b3 : Int) (w : World) (cx1 : Co x1) (cy1 : Co y1) (cz1 : Co z1) (cx2 : Co x2) (cy2 : Co y2) (cz2 : Co z2) (ca1 : Co a1) (ca2 : Co a2) (ca3 : Co a3) (cb1 : Co b1) (cb2 : Co b2) (cb3 : Co b3) :
    Calls Try.prog 18 #[.agg #[.int .i64 x1, .int .i64 y1, .int .i64 z1, .int .i64 x2, .int .i64 y2, .int .i64 z2], .agg #[.int .i64 a1, .int .i64 a2, .int .i64 a3], .agg #[.int .i64 b1, .int .i64 b2, .int .i64 b3]] w fun e w' => Below w.heap.size w w' ∧ e = .returned (.bool (refP (slabP a1 b1 x1 x2) (slabP a2 b2 y1 y2) (slabP a3 b3 z1 z2))) := by
  have HS1 := Lib.hid (fun W : World => slab_any a1 b1 x1 x2 W ca1 cb1 cx1 cx2)
  have HS2 := Lib.hid (fun W : World => slab_any a2 b2 y1 y2 W ca2 cb2 cy1 cy2)
  have HS3 := Lib.hid (fun W : World => slab_any a3 b3 z1 z2 W ca3 cb3 cz1 cz2)
  obtain ⟨fp, fq⟩ := slabP_fine ca1 cb1 cx1 cx2
  obtain ⟨fr, fs⟩ := slabP_fine ca2 cb2 cy1 cy2
  obtain ⟨ft, fu⟩ := slabP_fine ca3 cb3 cz1 cz2
  generalize slabP a1 b1 x1 x2 = S1 at *
  generalize slabP a2 b2 y1 y2 = S2 at *
  generalize slabP a3 b3 z1 z2 = S3 at *
  obtain ⟨p, q, o1⟩ := S1
  obtain ⟨r, s, o2⟩ := S2
  obtain ⟨t, u, o3⟩ := S3
  simp only at HS1 HS2 HS3 fp fq fr fs ft fu
  clear cx1 cy1 cz1 cx2 cy2 cz2 ca1 ca2 ca3 cb1 cb2 cb3
  by_cases hok : (o1 && o2 && o3) = true
  · have h1 : o1 = true := by simp at hok; exact hok.1.1
    have h2 : o2 = true := by simp at hok; exact hok.1.2
    have h3 : o3 = true := by simp at hok; exact hok.2
    subst h1 h2 h3
    have HR : Hid (refP (p, q, true) (r, s, true) (t, u, true) = endP (maxP (maxP p r) t) (minP (minP q s) u)) := Lib.hid rfl
    clear hok
    go_enter Try.func18, Try.ntmps18
    go_wp2_with fail
    refine (HS1.out _).mono ?_
    rintro e w1 ⟨hb1, rfl⟩
    have k1 : Bk w1 w.heap.size 23 #[.int .i64 x1, .int .i64 y1, .int .i64 z1, .int .i64 x2, .int .i64 y2, .int .i64 z2] := (by repeat (first | with_reducible assumption | with_reducible exact Bk.at_ (by simp) | with_reducible refine Bk.alloc ?_ _ | with_reducible refine Bk.drew ?_ | with_reducible refine Bk.drewN ?_ _ | with_reducible refine Bk.step (by with_reducible assumption) ?_ (by first | omega | (simp <;> omega))))
    have k2 : Bk w1 (w.heap.size + 1) 36 #[.int .i64 a1, .int .i64 a2, .int .i64 a3] := (by repeat (first | with_reducible assumption | with_reducible exact Bk.at_ (by simp) | with_reducible refine Bk.alloc ?_ _ | with_reducible refine Bk.drew ?_ | with_reducible refine Bk.drewN ?_ _ | with_reducible refine Bk.step (by with_reducible assumption) ?_ (by first | omega | (simp <;> omega))))
    have k3 : Bk w1 (w.heap.size + 1 + 1) 36 #[.int .i64 b1, .int .i64 b2, .int .i64 b3] := (by repeat (first | with_reducible assumption | with_reducible exact Bk.at_ (by simp) | with_reducible refine Bk.alloc ?_ _ | with_reducible refine Bk.drew ?_ | with_reducible refine Bk.drewN ?_ _ | with_reducible refine Bk.step (by with_reducible assumption) ?_ (by first | omega | (simp <;> omega))))
    have hB1 : Below w.heap.size w w1 := (by repeat (first | with_reducible exact Below.refl _ _ | with_reducible assumption | with_reducible refine Below.drew ?_ | with_reducible refine Below.drewN ?_ _ | with_reducible refine Below.alloc2 ?_ _ | with_reducible refine Below.alloc ?_ (by first | omega | (simp <;> omega)) _ | with_reducible refine Below.setCell ?_ (by first | omega | (simp <;> omega)) _ | with_reducible refine Below.step2 (by with_reducible assumption) ?_ | with_reducible refine Below.step (by with_reducible assumption) ?_ (by first | omega | (simp <;> omega))))
    have HT1 := Lib.hid hb1
    obtain ⟨⟨_, _, _, _, _, _⟩, -⟩ := k1.six
    obtain ⟨_, _, _⟩ := k2.three
    obtain ⟨_, _, _⟩ := k3.three
    have oa1 := k1.lt
    have ob1 := k2.lt
    have oc1 := k3.lt
    clear hb1
    go_wp2_with fail
    refine (HS2.out _).mono ?_
    rintro e w2 ⟨hb2, rfl⟩
    have k1 : Bk w2 w.heap.size 23 #[.int .i64 x1, .int .i64 y1, .int .i64 z1, .int .i64 x2, .int .i64 y2, .int .i64 z2] := (by repeat (first | with_reducible assumption | with_reducible exact Bk.at_ (by simp) | with_reducible refine Bk.alloc ?_ _ | with_reducible refine Bk.drew ?_ | with_reducible refine Bk.drewN ?_ _ | with_reducible refine Bk.step (by with_reducible assumption) ?_ (by first | omega | (simp <;> omega))))
    have k2 : Bk w2 (w.heap.size + 1) 36 #[.int .i64 a1, .int .i64 a2, .int .i64 a3] := (by repeat (first | with_reducible assumption | with_reducible exact Bk.at_ (by simp) | with_reducible refine Bk.alloc ?_ _ | with_reducible refine Bk.drew ?_ | with_reducible refine Bk.drewN ?_ _ | with_reducible refine Bk.step (by with_reducible assumption) ?_ (by first | omega | (simp <;> omega))))
    have k3 : Bk w2 (w.heap.size + 1 + 1) 36 #[.int .i64 b1, .int .i64 b2, .int .i64 b3] := (by repeat (first | with_reducible assumption | with_reducible exact Bk.at_ (by simp) | with_reducible refine Bk.alloc ?_ _ | with_reducible refine Bk.drew ?_ | with_reducible refine Bk.drewN ?_ _ | with_reducible refine Bk.step (by with_reducible assumption) ?_ (by first | omega | (simp <;> omega))))
    have hB2 : Below w.heap.size w w2 := (by repeat (first | with_reducible exact Below.refl _ _ | with_reducible assumption | with_reducible refine Below.drew ?_ | with_reducible refine Below.drewN ?_ _ | with_reducible refine Below.alloc2 ?_ _ | with_reducible refine Below.alloc ?_ (by first | omega | (simp <;> omega)) _ | with_reducible refine Below.setCell ?_ (by first | omega | (simp <;> omega)) _ | with_reducible refine Below.step2 (by with_reducible assumption) ?_ | with_reducible refine Below.step (by with_reducible assumption) ?_ (by first | omega | (simp <;> omega))))
    have HT2 := Lib.hid hb2
    obtain ⟨⟨_, _, _, _, _, _⟩, -⟩ := k1.six
    obtain ⟨_, _, _⟩ := k2.three
    obtain ⟨_, _, _⟩ := k3.three
    have oa2 := k1.lt
    have ob2 := k2.lt
    have oc2 := k3.lt
    clear hb2
    go_wp2_with fail
    refine (HS3.out _).mono ?_
    rintro e w3 ⟨hb3, rfl⟩
    have k1 : Bk w3 w.heap.size 23 #[.int .i64 x1, .int .i64 y1, .int .i64 z1, .int .i64 x2, .int .i64 y2, .int .i64 z2] := (by repeat (first | with_reducible assumption | with_reducible exact Bk.at_ (by simp) | with_reducible refine Bk.alloc ?_ _ | with_reducible refine Bk.drew ?_ | with_reducible refine Bk.drewN ?_ _ | with_reducible refine Bk.step (by with_reducible assumption) ?_ (by first | omega | (simp <;> omega))))
    have k2 : Bk w3 (w.heap.size + 1) 36 #[.int .i64 a1, .int .i64 a2, .int .i64 a3] := (by repeat (first | with_reducible assumption | with_reducible exact Bk.at_ (by simp) | with_reducible refine Bk.alloc ?_ _ | with_reducible refine Bk.drew ?_ | with_reducible refine Bk.drewN ?_ _ | with_reducible refine Bk.step (by with_reducible assumption) ?_ (by first | omega | (simp <;> omega))))
    have k3 : Bk w3 (w.heap.size + 1 + 1) 36 #[.int .i64 b1, .int .i64 b2, .int .i64 b3] := (by repeat (first | with_reducible assumption | with_reducible exact Bk.at_ (by simp) | with_reducible refine Bk.alloc ?_ _ | with_reducible refine Bk.drew ?_ | with_reducible refine Bk.drewN ?_ _ | with_reducible refine Bk.step (by with_reducible assumption) ?_ (by first | omega | (simp <;> omega))))
    have hB3 : Below w.heap.size w w3 := (by repeat (first | with_reducible exact Below.refl _ _ | with_reducible assumption | with_reducible refine Below.drew ?_ | with_reducible refine Below.drewN ?_ _ | with_reducible refine Below.alloc2 ?_ _ | with_reducible refine Below.alloc ?_ (by first | omega | (simp <;> omega)) _ | with_reducible refine Below.setCell ?_ (by first | omega | (simp <;> omega)) _ | with_reducible refine Below.step2 (by with_reducible assumption) ?_ | with_reducible refine Below.step (by with_reducible assumption) ?_ (by first | omega | (simp <;> omega))))
    have HT3 := Lib.hid hb3
    obtain ⟨⟨_, _, _, _, _, _⟩, -⟩ := k1.six
    obtain ⟨_, _, _⟩ := k2.three
    obtain ⟨_, _, _⟩ := k3.three
    have oa3 := k1.lt
    have ob3 := k2.lt
    have oc3 := k3.lt
    clear hb3
    go_wp2_with fail
    go_cut [16, 17] (fun P16 P17 wx => SixB w 88 r s t u p q (.pointer (some ⟨w2.heap.size, 0, none⟩)) (.pointer (some ⟨w2.heap.size + 1, 0, none⟩)) (.pointer (some ⟨w3.heap.size, 0, none⟩)) (.pointer (some ⟨w3.heap.size + 1, 0, none⟩)) P16 P17 wx)
    case first =>
      have z2 : w1.heap.size + 1 + 1 ≤ w2.heap.size := by have := HT2.out.size; simpa using this
      have z3 : w2.heap.size + 1 + 1 ≤ w3.heap.size := by have := HT3.out.size; simpa using this
      have kr : Bk w3 w2.heap.size 88 (fcells r) := Bk.step HT3.out (Bk.alloc (Bk.at_ rfl) _) (by first | omega | (simp <;> omega))
      have ks : Bk w3 (w2.heap.size + 1) 88 (fcells s) := Bk.step HT3.out (Bk.at_ (by simp)) (by first | omega | (simp <;> omega))
      have kp : Bk w3 w1.heap.size 88 (fcells p) := Bk.step HT3.out (Bk.alloc (Bk.alloc (Bk.step HT2.out (Bk.alloc (Bk.at_ rfl) _) (by first | omega | (simp <;> omega))) _) _) (by first | omega | (simp <;> omega))
      have kq : Bk w3 (w1.heap.size + 1) 88 (fcells q) := Bk.step HT3.out (Bk.alloc (Bk.alloc (Bk.step HT2.out (Bk.at_ (by simp)) (by first | omega | (simp <;> omega))) _) _) (by first | omega | (simp <;> omega))
      have KR := Lib.hid kr
      have KS := Lib.hid ks
      have o1 : w1.heap.size < w3.heap.size := by omega
      have o2 : w1.heap.size + 1 < w3.heap.size := by omega
      have o3 : w1.heap.size < w3.heap.size + 1 := by omega
      have o4 : w1.heap.size + 1 < w3.heap.size + 1 := by omega
      have o5 : w1.heap.size < w3.heap.size + 1 + 1 := by omega
      have o6 : w1.heap.size + 1 < w3.heap.size + 1 + 1 := by omega
      have o7 : w1.heap.size < w3.heap.size + 1 + 1 + 1 := by omega
      have o8 : w1.heap.size + 1 < w3.heap.size + 1 + 1 + 1 := by omega
      obtain ⟨⟨_, _⟩, -⟩ := kp.two
      obtain ⟨⟨_, _⟩, -⟩ := kq.two
      clear kr ks kp kq
      go_region
      all_goals
        go_wp2_with fail
        go_meet
        have kr := KR.out
        have ks := KS.out
        refine ⟨_, _, _, _, _, _, rfl, rfl, rfl, rfl, rfl, rfl, (by repeat (first | with_reducible assumption | with_reducible exact Bk.at_ (by simp) | with_reducible refine Bk.alloc ?_ _ | with_reducible refine Bk.drew ?_ | with_reducible refine Bk.drewN ?_ _ | with_reducible refine Bk.step (by with_reducible assumption) ?_ (by first | omega | (simp <;> omega)))), (by repeat (first | with_reducible assumption | with_reducible exact Bk.at_ (by simp) | with_reducible refine Bk.alloc ?_ _ | with_reducible refine Bk.drew ?_ | with_reducible refine Bk.drewN ?_ _ | with_reducible refine Bk.step (by with_reducible assumption) ?_ (by first | omega | (simp <;> omega)))), (by repeat (first | with_reducible assumption | with_reducible exact Bk.at_ (by simp) | with_reducible refine Bk.alloc ?_ _ | with_reducible refine Bk.drew ?_ | with_reducible refine Bk.drewN ?_ _ | with_reducible refine Bk.step (by with_reducible assumption) ?_ (by first | omega | (simp <;> omega)))), (by repeat (first | with_reducible assumption | with_reducible exact Bk.at_ (by simp) | with_reducible refine Bk.alloc ?_ _ | with_reducible refine Bk.drew ?_ | with_reducible refine Bk.drewN ?_ _ | with_reducible refine Bk.step (by with_reducible assumption) ?_ (by first | omega | (simp <;> omega)))), (by repeat (first | with_reducible assumption | with_reducible exact Bk.at_ (by simp) | with_reducible refine Bk.alloc ?_ _ | with_reducible refine Bk.drew ?_ | with_reducible refine Bk.drewN ?_ _ | with_reducible refine Bk.step (by with_reducible assumption) ?_ (by first | omega | (simp <;> omega)))), (by repeat (first | with_reducible assumption | with_reducible exact Bk.at_ (by simp) | with_reducible refine Bk.alloc ?_ _ | with_reducible refine Bk.drew ?_ | with_reducible refine Bk.drewN ?_ _ | with_reducible refine Bk.step (by with_reducible assumption) ?_ (by first | omega | (simp <;> omega)))), ⟨by omega, by omega, by omega, by omega, by omega, by omega⟩, by omega, (by repeat (first | with_reducible exact Below.refl _ _ | with_reducible assumption | with_reducible refine Below.drew ?_ | with_reducible refine Below.drewN ?_ _ | with_reducible refine Below.alloc2 ?_ _ | with_reducible refine Below.alloc ?_ (by first | omega | (simp <;> omega)) _ | with_reducible refine Below.setCell ?_ (by first | omega | (simp <;> omega)) _ | with_reducible refine Below.step2 (by with_reducible assumption) ?_ | with_reducible refine Below.step (by with_reducible assumption) ?_ (by first | omega | (simp <;> omega))))⟩
    case rest =>
      obtain ⟨b10, b11, b13, b14, bF, bT, e1, e2, e3, e4, rfl, rfl, kr, ks, kt, ku, kF, kT, ⟨d1, d2, d3, d4, d5, d6⟩, d7, hbw⟩ := hcut
      simp only [Value.pointer.injEq, Option.some.injEq, Addr.mk.injEq, and_true] at e1 e2 e3 e4
      subst e1 e2 e3 e4
      have fF := fine_max fp fr
      have fF2 := fine_max fF ft
      have fT := fine_min fq fs
      have fT2 := fine_min fT fu
      obtain ⟨⟨_, _⟩, _, _⟩ := kr.two
      obtain ⟨⟨_, _⟩, _, _⟩ := ks.two
      obtain ⟨⟨_, _⟩, _, _⟩ := kt.two
      obtain ⟨⟨_, _⟩, _, _⟩ := ku.two
      obtain ⟨⟨_, _⟩, _, _⟩ := kF.two
      obtain ⟨⟨_, _⟩, _, _⟩ := kT.two
      go_wp2_with fail
      refine (refLess_any p r _ fp fr).mono ?_
      rintro e wx ⟨hbx, rfl⟩
      have hsix : SixC w 88 w2.heap.size (w2.heap.size + 1) w3.heap.size (w3.heap.size + 1) bF bT r s t u p q wx := ⟨Bk.step hbx kr kr.lt, Bk.step hbx ks ks.lt, Bk.step hbx kt kt.lt, Bk.step hbx ku ku.lt, Bk.step hbx kF kF.lt, Bk.step hbx kT kT.lt, (by repeat (first | with_reducible exact Below.refl _ _ | with_reducible assumption | with_reducible refine Below.drew ?_ | with_reducible refine Below.drewN ?_ _ | with_reducible refine Below.alloc2 ?_ _ | with_reducible refine Below.alloc ?_ (by first | omega | (simp <;> omega)) _ | with_reducible refine Below.setCell ?_ (by first | omega | (simp <;> omega)) _ | with_reducible refine Below.step2 (by with_reducible assumption) ?_ | with_reducible refine Below.step (by with_reducible assumption) ?_ (by first | omega | (simp <;> omega))))⟩
      have HSIX := Lib.hid hsix
      clear hbx kr ks kt ku kF kT hbw hsix
      go_upto_if 71 with (fail)
      go_cut [] (fun wy => SixC w 88 w2.heap.size (w2.heap.size + 1) w3.heap.size (w3.heap.size + 1) bF bT r s t u (maxP p r) q wy)
      case first =>
        obtain ⟨kr, ks, kt, ku, kF, kT, -⟩ := HSIX.out
        obtain ⟨⟨_, _⟩, _, _⟩ := kr.two
        obtain ⟨⟨_, _⟩, _, _⟩ := ks.two
        obtain ⟨⟨_, _⟩, _, _⟩ := kt.two
        obtain ⟨⟨_, _⟩, _, _⟩ := ku.two
        obtain ⟨⟨_, _⟩, _, _⟩ := kF.two
        obtain ⟨⟨_, _⟩, _, _⟩ := kT.two
        clear kr ks kt ku kF kT
        rcases hl : lessP p r
        · have e : maxP p r = p := maxP_no hl
          have HE := Lib.hid e
          clear e
          go_wp2
          go_meet
          rw [HE.out]
          exact HSIX.out
        · have e : maxP p r = r := maxP_yes hl
          have HE := Lib.hid e
          clear e
          go_wp2
          go_meet
          rw [HE.out]
          exact HSIX.out.setF _ ⟨d1, d2, d3, d4, d5, d6⟩ d7
      case rest =>
        obtain ⟨kr, ks, kt, ku, kF, kT, hbw⟩ := hcut
        clear HSIX
        obtain ⟨⟨_, _⟩, _, _⟩ := kr.two
        obtain ⟨⟨_, _⟩, _, _⟩ := ks.two
        obtain ⟨⟨_, _⟩, _, _⟩ := kt.two
        obtain ⟨⟨_, _⟩, _, _⟩ := ku.two
        obtain ⟨⟨_, _⟩, _, _⟩ := kF.two
        obtain ⟨⟨_, _⟩, _, _⟩ := kT.two
        go_wp2_with fail
        refine (refLess_any (maxP p r) t _ fF ft).mono ?_
        rintro e wx ⟨hbx, rfl⟩
        have hsix : SixC w 88 w2.heap.size (w2.heap.size + 1) w3.heap.size (w3.heap.size + 1) bF bT r s t u (maxP p r) q wx := ⟨Bk.step hbx kr kr.lt, Bk.step hbx ks ks.lt, Bk.step hbx kt kt.lt, Bk.step hbx ku ku.lt, Bk.step hbx kF kF.lt, Bk.step hbx kT kT.lt, (by repeat (first | with_reducible exact Below.refl _ _ | with_reducible assumption | with_reducible refine Below.drew ?_ | with_reducible refine Below.drewN ?_ _ | with_reducible refine Below.alloc2 ?_ _ | with_reducible refine Below.alloc ?_ (by first | omega | (simp <;> omega)) _ | with_reducible refine Below.setCell ?_ (by first | omega | (simp <;> omega)) _ | with_reducible refine Below.step2 (by with_reducible assumption) ?_ | with_reducible refine Below.step (by with_reducible assumption) ?_ (by first | omega | (simp <;> omega))))⟩
        have HSIX := Lib.hid hsix
        clear hbx kr ks kt ku kF kT hbw hsix
        go_upto_if 75 with (fail)
        go_cut [] (fun wy => SixC w 88 w2.heap.size (w2.heap.size + 1) w3.heap.size (w3.heap.size + 1) bF bT r s t u (maxP (maxP p r) t) q wy)
        case first =>
          obtain ⟨kr, ks, kt, ku, kF, kT, -⟩ := HSIX.out
          obtain ⟨⟨_, _⟩, _, _⟩ := kr.two
          obtain ⟨⟨_, _⟩, _, _⟩ := ks.two
          obtain ⟨⟨_, _⟩, _, _⟩ := kt.two
          obtain ⟨⟨_, _⟩, _, _⟩ := ku.two
          obtain ⟨⟨_, _⟩, _, _⟩ := kF.two
          obtain ⟨⟨_, _⟩, _, _⟩ := kT.two
          clear kr ks kt ku kF kT
          rcases hl : lessP (maxP p r) t
          · have e : maxP (maxP p r) t = maxP p r := maxP_no hl
            have HE := Lib.hid e
            clear e
            go_wp2
            go_meet
            rw [HE.out]
            exact HSIX.out
          · have e : maxP (maxP p r) t = t := maxP_yes hl
            have HE := Lib.hid e
            clear e
            go_wp2
            go_meet
            rw [HE.out]
            exact HSIX.out.setF _ ⟨d1, d2, d3, d4, d5, d6⟩ d7
        case rest =>
          obtain ⟨kr, ks, kt, ku, kF, kT, hbw⟩ := hcut
          clear HSIX
          generalize maxP (maxP p r) t = F at *
          obtain ⟨⟨_, _⟩, _, _⟩ := kr.two
          obtain ⟨⟨_, _⟩, _, _⟩ := ks.two
          obtain ⟨⟨_, _⟩, _, _⟩ := kt.two
          obtain ⟨⟨_, _⟩, _, _⟩ := ku.two
          obtain ⟨⟨_, _⟩, _, _⟩ := kF.two
          obtain ⟨⟨_, _⟩, _, _⟩ := kT.two
          go_wp2_with fail
          refine (refLess_any s q _ fs fq).mono ?_
          rintro e wx ⟨hbx, rfl⟩
          have hsix : SixC w 88 w2.heap.size (w2.heap.size + 1) w3.heap.size (w3.heap.size + 1) bF bT r s t u F q wx := ⟨Bk.step hbx kr kr.lt, Bk.step hbx ks ks.lt, Bk.step hbx kt kt.lt, Bk.step hbx ku ku.lt, Bk.step hbx kF kF.lt, Bk.step hbx kT kT.lt, (by repeat (first | with_reducible exact Below.refl _ _ | with_reducible assumption | with_reducible refine Below.drew ?_ | with_reducible refine Below.drewN ?_ _ | with_reducible refine Below.alloc2 ?_ _ | with_reducible refine Below.alloc ?_ (by first | omega | (simp <;> omega)) _ | with_reducible refine Below.setCell ?_ (by first | omega | (simp <;> omega)) _ | with_reducible refine Below.step2 (by with_reducible assumption) ?_ | with_reducible refine Below.step (by with_reducible assumption) ?_ (by first | omega | (simp <;> omega))))⟩
          have HSIX := Lib.hid hsix
          clear hbx kr ks kt ku kF kT hbw hsix
          go_upto_if 79 with (fail)
          go_cut [] (fun wy => SixC w 88 w2.heap.size (w2.heap.size + 1) w3.heap.size (w3.heap.size + 1) bF bT r s t u F (minP q s) wy)
          case first =>
            obtain ⟨kr, ks, kt, ku, kF, kT, -⟩ := HSIX.out
            obtain ⟨⟨_, _⟩, _, _⟩ := kr.two
            obtain ⟨⟨_, _⟩, _, _⟩ := ks.two
            obtain ⟨⟨_, _⟩, _, _⟩ := kt.two
            obtain ⟨⟨_, _⟩, _, _⟩ := ku.two
            obtain ⟨⟨_, _⟩, _, _⟩ := kF.two
            obtain ⟨⟨_, _⟩, _, _⟩ := kT.two
            clear kr ks kt ku kF kT
            rcases hl : lessP s q
            · have e : minP q s = q := minP_no hl
              have HE := Lib.hid e
              clear e
              go_wp2
              go_meet
              rw [HE.out]
              exact HSIX.out
            · have e : minP q s = s := minP_yes hl
              have HE := Lib.hid e
              clear e
              go_wp2
              go_meet
              rw [HE.out]
              exact HSIX.out.setT _ ⟨d1, d2, d3, d4, d5, d6⟩ d7
          case rest =>
            obtain ⟨kr, ks, kt, ku, kF, kT, hbw⟩ := hcut
            clear HSIX
            obtain ⟨⟨_, _⟩, _, _⟩ := kr.two
            obtain ⟨⟨_, _⟩, _, _⟩ := ks.two
            obtain ⟨⟨_, _⟩, _, _⟩ := kt.two
            obtain ⟨⟨_, _⟩, _, _⟩ := ku.two
            obtain ⟨⟨_, _⟩, _, _⟩ := kF.two
            obtain ⟨⟨_, _⟩, _, _⟩ := kT.two
            go_wp2_with fail
            refine (refLess_any u (minP q s) _ fu fT).mono ?_
            rintro e wx ⟨hbx, rfl⟩
            have hsix : SixC w 88 w2.heap.size (w2.heap.size + 1) w3.heap.size (w3.heap.size + 1) bF bT r s t u F (minP q s) wx := ⟨Bk.step hbx kr kr.lt, Bk.step hbx ks ks.lt, Bk.step hbx kt kt.lt, Bk.step hbx ku ku.lt, Bk.step hbx kF kF.lt, Bk.step hbx kT kT.lt, (by repeat (first | with_reducible exact Below.refl _ _ | with_reducible assumption | with_reducible refine Below.drew ?_ | with_reducible refine Below.drewN ?_ _ | with_reducible refine Below.alloc2 ?_ _ | with_reducible refine Below.alloc ?_ (by first | omega | (simp <;> omega)) _ | with_reducible refine Below.setCell ?_ (by first | omega | (simp <;> omega)) _ | with_reducible refine Below.step2 (by with_reducible assumption) ?_ | with_reducible refine Below.step (by with_reducible assumption) ?_ (by first | omega | (simp <;> omega))))⟩
            have HSIX := Lib.hid hsix
            clear hbx kr ks kt ku kF kT hbw hsix
            go_upto_if 83 with (fail)
            go_cut [] (fun wy => SixC w 88 w2.heap.size (w2.heap.size + 1) w3.heap.size (w3.heap.size + 1) bF bT r s t u F (minP (minP q s) u) wy)
            case first =>
              obtain ⟨kr, ks, kt, ku, kF, kT, -⟩ := HSIX.out
              obtain ⟨⟨_, _⟩, _, _⟩ := kr.two
              obtain ⟨⟨_, _⟩, _, _⟩ := ks.two
              obtain ⟨⟨_, _⟩, _, _⟩ := kt.two
              obtain ⟨⟨_, _⟩, _, _⟩ := ku.two
              obtain ⟨⟨_, _⟩, _, _⟩ := kF.two
              obtain ⟨⟨_, _⟩, _, _⟩ := kT.two
              clear kr ks kt ku kF kT
              rcases hl : lessP u (minP q s)
              · have e : minP (minP q s) u = minP q s := minP_no hl
                have HE := Lib.hid e
                clear e
                go_wp2
                go_meet
                rw [HE.out]
                exact HSIX.out
              · have e : minP (minP q s) u = u := minP_yes hl
                have HE := Lib.hid e
                clear e
                go_wp2
                go_meet
                rw [HE.out]
                exact HSIX.out.setT _ ⟨d1, d2, d3, d4, d5, d6⟩ d7
            case rest =>
              obtain ⟨kr, ks, kt, ku, kF, kT, hbw⟩ := hcut
              clear HSIX
              generalize minP (minP q s) u = T at *
              have L1 := Lib.hid (fun W : World => refLess_any F T W fF2 fT2)
              have L2 := Lib.hid (fun W : World => refLess_any F (1, 1) W fF2 (by unfold Fine; simp only; omega))
              have L3 := Lib.hid (fun W : World => refLess_any (0, 1) T W (by unfold Fine; simp only; omega) fT2)
              have hep : Hid (endP F T = (lessP F T && lessP F (1, 1) && lessP (0, 1) T)) := Lib.hid rfl
              obtain ⟨⟨_, _⟩, _, _⟩ := kr.two
              obtain ⟨⟨_, _⟩, _, _⟩ := ks.two
              obtain ⟨⟨_, _⟩, _, _⟩ := kt.two
              obtain ⟨⟨_, _⟩, _, _⟩ := ku.two
              obtain ⟨⟨_, _⟩, _, _⟩ := kF.two
              obtain ⟨⟨_, _⟩, _, _⟩ := kT.two
              rcases t1 : lessP F T
              · rw [t1] at L1
                have hr : Hid (endP F T = false) := Lib.hid (by rw [hep.out, t1]; rfl)
                clear t1
                go_wp2_with fail
                refine (L1.out _).mono ?_
                rintro e w5 ⟨hb5, rfl⟩; obtain ⟨hc5, hf5⟩ := bcell hb5; have hz5 := hb5.size; (try simp at hz5)
                go_wp2
                go_ret
                exact ⟨(by repeat (first | with_reducible exact Below.refl _ _ | with_reducible assumption | with_reducible refine Below.drew ?_ | with_reducible refine Below.drewN ?_ _ | with_reducible refine Below.alloc2 ?_ _ | with_reducible refine Below.alloc ?_ (by first | omega | (simp <;> omega)) _ | with_reducible refine Below.setCell ?_ (by first | omega | (simp <;> omega)) _ | with_reducible refine Below.step2 (by with_reducible assumption) ?_ | with_reducible refine Below.step (by with_reducible assumption) ?_ (by first | omega | (simp <;> omega)))), ret_bool (by rw [HR.out, hr.out])⟩
              · rw [t1] at L1
                rcases t2 : lessP F (1, 1)
                · rw [t2] at L2
                  have hr : Hid (endP F T = false) := Lib.hid (by rw [hep.out, t1, t2]; rfl)
                  clear t1 t2
                  go_wp2_with fail
                  refine (L1.out _).mono ?_
                  rintro e w5 ⟨hb5, rfl⟩
                  have kF5 := Bk.step hb5 kF kF.lt
                  obtain ⟨⟨_, _⟩, -⟩ := kF5.two
                  go_wp2_with fail
                  refine (L2.out _).mono ?_
                  rintro e w6 ⟨hb6, rfl⟩
                  go_wp2
                  go_ret
                  exact ⟨(by repeat (first | with_reducible exact Below.refl _ _ | with_reducible assumption | with_reducible refine Below.drew ?_ | with_reducible refine Below.drewN ?_ _ | with_reducible refine Below.alloc2 ?_ _ | with_reducible refine Below.alloc ?_ (by first | omega | (simp <;> omega)) _ | with_reducible refine Below.setCell ?_ (by first | omega | (simp <;> omega)) _ | with_reducible refine Below.step2 (by with_reducible assumption) ?_ | with_reducible refine Below.step (by with_reducible assumption) ?_ (by first | omega | (simp <;> omega)))), ret_bool (by rw [HR.out, hr.out])⟩
                · rw [t2] at L2
                  rcases t3 : lessP (0, 1) T
                  all_goals
                    have hr : Hid (endP F T = lessP (0, 1) T) := Lib.hid (by rw [hep.out, t1, t2]; rfl)
                    rw [t3] at L3 hr
                    clear t1 t2 t3
                    go_wp2_with fail
                    refine (L1.out _).mono ?_
                    rintro e w5 ⟨hb5, rfl⟩
                    have kF5 := Bk.step hb5 kF kF.lt
                    have kT5 := Bk.step hb5 kT kT.lt
                    obtain ⟨⟨_, _⟩, -⟩ := kF5.two
                    go_wp2_with fail
                    refine (L2.out _).mono ?_
                    rintro e w6 ⟨hb6, rfl⟩
                    have kT6 := Bk.step hb6 kT5 kT5.lt
                    obtain ⟨⟨_, _⟩, -⟩ := kT6.two
                    go_wp2_with fail
                    refine (L3.out _).mono ?_
                    rintro e w7 ⟨hb7, rfl⟩
                    go_wp2
                    go_ret
                    exact ⟨(by repeat (first | with_reducible exact Below.refl _ _ | with_reducible assumption | with_reducible refine Below.drew ?_ | with_reducible refine Below.drewN ?_ _ | with_reducible refine Below.alloc2 ?_ _ | with_reducible refine Below.alloc ?_ (by first | omega | (simp <;> omega)) _ | with_reducible refine Below.setCell ?_ (by first | omega | (simp <;> omega)) _ | with_reducible refine Below.step2 (by with_reducible assumption) ?_ | with_reducible refine Below.step (by with_reducible assumption) ?_ (by first | omega | (simp <;> omega)))), ret_bool (by rw [HR.out, hr.out])⟩
  · have HR : Hid (refP (p, q, o1) (r, s, o2) (t, u, o3) = false) := Lib.hid (by
      have e : (o1 && o2 && o3) = false := by simpa using hok
      show (o1 && o2 && o3 && _) = false
      rw [e]
      rfl)
    have h3 : o1 = false ∨ (o1 = true ∧ o2 = false) ∨ (o1 = true ∧ o2 = true ∧ o3 = false) := by
      cases o1 <;> cases o2 <;> cases o3 <;> simp at hok ⊢
    clear hok fp fq fr fs ft fu
    rcases h3 with h | ⟨h, h'⟩ | ⟨h, h', h''⟩
    · subst h
      go_enter Try.func18, Try.ntmps18
      go_wp2_with fail
      refine (HS1.out _).mono ?_
      rintro e w1 ⟨hb1, rfl⟩
      have k1 : Bk w1 w.heap.size 23 #[.int .i64 x1, .int .i64 y1, .int .i64 z1, .int .i64 x2, .int .i64 y2, .int .i64 z2] := (by repeat (first | with_reducible assumption | with_reducible exact Bk.at_ (by simp) | with_reducible refine Bk.alloc ?_ _ | with_reducible refine Bk.drew ?_ | with_reducible refine Bk.drewN ?_ _ | with_reducible refine Bk.step (by with_reducible assumption) ?_ (by first | omega | (simp <;> omega))))
      have k2 : Bk w1 (w.heap.size + 1) 36 #[.int .i64 a1, .int .i64 a2, .int .i64 a3] := (by repeat (first | with_reducible assumption | with_reducible exact Bk.at_ (by simp) | with_reducible refine Bk.alloc ?_ _ | with_reducible refine Bk.drew ?_ | with_reducible refine Bk.drewN ?_ _ | with_reducible refine Bk.step (by with_reducible assumption) ?_ (by first | omega | (simp <;> omega))))
      have k3 : Bk w1 (w.heap.size + 1 + 1) 36 #[.int .i64 b1, .int .i64 b2, .int .i64 b3] := (by repeat (first | with_reducible assumption | with_reducible exact Bk.at_ (by simp) | with_reducible refine Bk.alloc ?_ _ | with_reducible refine Bk.drew ?_ | with_reducible refine Bk.drewN ?_ _ | with_reducible refine Bk.step (by with_reducible assumption) ?_ (by first | omega | (simp <;> omega))))
      have hB1 : Below w.heap.size w w1 := (by repeat (first | with_reducible exact Below.refl _ _ | with_reducible assumption | with_reducible refine Below.drew ?_ | with_reducible refine Below.drewN ?_ _ | with_reducible refine Below.alloc2 ?_ _ | with_reducible refine Below.alloc ?_ (by first | omega | (simp <;> omega)) _ | with_reducible refine Below.setCell ?_ (by first | omega | (simp <;> omega)) _ | with_reducible refine Below.step2 (by with_reducible assumption) ?_ | with_reducible refine Below.step (by with_reducible assumption) ?_ (by first | omega | (simp <;> omega))))
      have HT1 := Lib.hid hb1
      obtain ⟨⟨_, _, _, _, _, _⟩, -⟩ := k1.six
      obtain ⟨_, _, _⟩ := k2.three
      obtain ⟨_, _, _⟩ := k3.three
      have oa1 := k1.lt
      have ob1 := k2.lt
      have oc1 := k3.lt
      clear hb1
      go_wp2_with fail
      refine (HS2.out _).mono ?_
      rintro e w2 ⟨hb2, rfl⟩
      have k1 : Bk w2 w.heap.size 23 #[.int .i64 x1, .int .i64 y1, .int .i64 z1, .int .i64 x2, .int .i64 y2, .int .i64 z2] := (by repeat (first | with_reducible assumption | with_reducible exact Bk.at_ (by simp) | with_reducible refine Bk.alloc ?_ _ | with_reducible refine Bk.drew ?_ | with_reducible refine Bk.drewN ?_ _ | with_reducible refine Bk.step (by with_reducible assumption) ?_ (by first | omega | (simp <;> omega))))
      have k2 : Bk w2 (w.heap.size + 1) 36 #[.int .i64 a1, .int .i64 a2, .int .i64 a3] := (by repeat (first | with_reducible assumption | with_reducible exact Bk.at_ (by simp) | with_reducible refine Bk.alloc ?_ _ | with_reducible refine Bk.drew ?_ | with_reducible refine Bk.drewN ?_ _ | with_reducible refine Bk.step (by with_reducible assumption) ?_ (by first | omega | (simp <;> omega))))
      have k3 : Bk w2 (w.heap.size + 1 + 1) 36 #[.int .i64 b1, .int .i64 b2, .int .i64 b3] := (by repeat (first | with_reducible assumption | with_reducible exact Bk.at_ (by simp) | with_reducible refine Bk.alloc ?_ _ | with_reducible refine Bk.drew ?_ | with_reducible refine Bk.drewN ?_ _ | with_reducible refine Bk.step (by with_reducible assumption) ?_ (by first | omega | (simp <;> omega))))
      have hB2 : Below w.heap.size w w2 := (by repeat (first | with_reducible exact Below.refl _ _ | with_reducible assumption | with_reducible refine Below.drew ?_ | with_reducible refine Below.drewN ?_ _ | with_reducible refine Below.alloc2 ?_ _ | with_reducible refine Below.alloc ?_ (by first | omega | (simp <;> omega)) _ | with_reducible refine Below.setCell ?_ (by first | omega | (simp <;> omega)) _ | with_reducible refine Below.step2 (by with_reducible assumption) ?_ | with_reducible refine Below.step (by with_reducible assumption) ?_ (by first | omega | (simp <;> omega))))
      have HT2 := Lib.hid hb2
      obtain ⟨⟨_, _, _, _, _, _⟩, -⟩ := k1.six
      obtain ⟨_, _, _⟩ := k2.three
      obtain ⟨_, _, _⟩ := k3.three
      have oa2 := k1.lt
      have ob2 := k2.lt
      have oc2 := k3.lt
      clear hb2
      go_wp2_with fail
      refine (HS3.out _).mono ?_
      rintro e w3 ⟨hb3, rfl⟩
      have k1 : Bk w3 w.heap.size 23 #[.int .i64 x1, .int .i64 y1, .int .i64 z1, .int .i64 x2, .int .i64 y2, .int .i64 z2] := (by repeat (first | with_reducible assumption | with_reducible exact Bk.at_ (by simp) | with_reducible refine Bk.alloc ?_ _ | with_reducible refine Bk.drew ?_ | with_reducible refine Bk.drewN ?_ _ | with_reducible refine Bk.step (by with_reducible assumption) ?_ (by first | omega | (simp <;> omega))))
      have k2 : Bk w3 (w.heap.size + 1) 36 #[.int .i64 a1, .int .i64 a2, .int .i64 a3] := (by repeat (first | with_reducible assumption | with_reducible exact Bk.at_ (by simp) | with_reducible refine Bk.alloc ?_ _ | with_reducible refine Bk.drew ?_ | with_reducible refine Bk.drewN ?_ _ | with_reducible refine Bk.step (by with_reducible assumption) ?_ (by first | omega | (simp <;> omega))))
      have k3 : Bk w3 (w.heap.size + 1 + 1) 36 #[.int .i64 b1, .int .i64 b2, .int .i64 b3] := (by repeat (first | with_reducible assumption | with_reducible exact Bk.at_ (by simp) | with_reducible refine Bk.alloc ?_ _ | with_reducible refine Bk.drew ?_ | with_reducible refine Bk.drewN ?_ _ | with_reducible refine Bk.step (by with_reducible assumption) ?_ (by first | omega | (simp <;> omega))))
      have hB3 : Below w.heap.size w w3 := (by repeat (first | with_reducible exact Below.refl _ _ | with_reducible assumption | with_reducible refine Below.drew ?_ | with_reducible refine Below.drewN ?_ _ | with_reducible refine Below.alloc2 ?_ _ | with_reducible refine Below.alloc ?_ (by first | omega | (simp <;> omega)) _ | with_reducible refine Below.setCell ?_ (by first | omega | (simp <;> omega)) _ | with_reducible refine Below.step2 (by with_reducible assumption) ?_ | with_reducible refine Below.step (by with_reducible assumption) ?_ (by first | omega | (simp <;> omega))))
      have HT3 := Lib.hid hb3
      obtain ⟨⟨_, _, _, _, _, _⟩, -⟩ := k1.six
      obtain ⟨_, _, _⟩ := k2.three
      obtain ⟨_, _, _⟩ := k3.three
      have oa3 := k1.lt
      have ob3 := k2.lt
      have oc3 := k3.lt
      clear hb3
      go_wp2
      go_ret
      exact ⟨(by repeat (first | with_reducible exact Below.refl _ _ | with_reducible assumption | with_reducible refine Below.drew ?_ | with_reducible refine Below.drewN ?_ _ | with_reducible refine Below.alloc2 ?_ _ | with_reducible refine Below.alloc ?_ (by first | omega | (simp <;> omega)) _ | with_reducible refine Below.setCell ?_ (by first | omega | (simp <;> omega)) _ | with_reducible refine Below.step2 (by with_reducible assumption) ?_ | with_reducible refine Below.step (by with_reducible assumption) ?_ (by first | omega | (simp <;> omega)))), ret_bool HR.out.symm⟩
    · subst h h'
      go_enter Try.func18, Try.ntmps18
      go_wp2_with fail
      refine (HS1.out _).mono ?_
      rintro e w1 ⟨hb1, rfl⟩
      have k1 : Bk w1 w.heap.size 23 #[.int .i64 x1, .int .i64 y1, .int .i64 z1, .int .i64 x2, .int .i64 y2, .int .i64 z2] := (by repeat (first | with_reducible assumption | with_reducible exact Bk.at_ (by simp) | with_reducible refine Bk.alloc ?_ _ | with_reducible refine Bk.drew ?_ | with_reducible refine Bk.drewN ?_ _ | with_reducible refine Bk.step (by with_reducible assumption) ?_ (by first | omega | (simp <;> omega))))
      have k2 : Bk w1 (w.heap.size + 1) 36 #[.int .i64 a1, .int .i64 a2, .int .i64 a3] := (by repeat (first | with_reducible assumption | with_reducible exact Bk.at_ (by simp) | with_reducible refine Bk.alloc ?_ _ | with_reducible refine Bk.drew ?_ | with_reducible refine Bk.drewN ?_ _ | with_reducible refine Bk.step (by with_reducible assumption) ?_ (by first | omega | (simp <;> omega))))
      have k3 : Bk w1 (w.heap.size + 1 + 1) 36 #[.int .i64 b1, .int .i64 b2, .int .i64 b3] := (by repeat (first | with_reducible assumption | with_reducible exact Bk.at_ (by simp) | with_reducible refine Bk.alloc ?_ _ | with_reducible refine Bk.drew ?_ | with_reducible refine Bk.drewN ?_ _ | with_reducible refine Bk.step (by with_reducible assumption) ?_ (by first | omega | (simp <;> omega))))
      have hB1 : Below w.heap.size w w1 := (by repeat (first | with_reducible exact Below.refl _ _ | with_reducible assumption | with_reducible refine Below.drew ?_ | with_reducible refine Below.drewN ?_ _ | with_reducible refine Below.alloc2 ?_ _ | with_reducible refine Below.alloc ?_ (by first | omega | (simp <;> omega)) _ | with_reducible refine Below.setCell ?_ (by first | omega | (simp <;> omega)) _ | with_reducible refine Below.step2 (by with_reducible assumption) ?_ | with_reducible refine Below.step (by with_reducible assumption) ?_ (by first | omega | (simp <;> omega))))
      have HT1 := Lib.hid hb1
      obtain ⟨⟨_, _, _, _, _, _⟩, -⟩ := k1.six
      obtain ⟨_, _, _⟩ := k2.three
      obtain ⟨_, _, _⟩ := k3.three
      have oa1 := k1.lt
      have ob1 := k2.lt
      have oc1 := k3.lt
      clear hb1
      go_wp2_with fail
      refine (HS2.out _).mono ?_
      rintro e w2 ⟨hb2, rfl⟩
      have k1 : Bk w2 w.heap.size 23 #[.int .i64 x1, .int .i64 y1, .int .i64 z1, .int .i64 x2, .int .i64 y2, .int .i64 z2] := (by repeat (first | with_reducible assumption | with_reducible exact Bk.at_ (by simp) | with_reducible refine Bk.alloc ?_ _ | with_reducible refine Bk.drew ?_ | with_reducible refine Bk.drewN ?_ _ | with_reducible refine Bk.step (by with_reducible assumption) ?_ (by first | omega | (simp <;> omega))))
      have k2 : Bk w2 (w.heap.size + 1) 36 #[.int .i64 a1, .int .i64 a2, .int .i64 a3] := (by repeat (first | with_reducible assumption | with_reducible exact Bk.at_ (by simp) | with_reducible refine Bk.alloc ?_ _ | with_reducible refine Bk.drew ?_ | with_reducible refine Bk.drewN ?_ _ | with_reducible refine Bk.step (by with_reducible assumption) ?_ (by first | omega | (simp <;> omega))))
      have k3 : Bk w2 (w.heap.size + 1 + 1) 36 #[.int .i64 b1, .int .i64 b2, .int .i64 b3] := (by repeat (first | with_reducible assumption | with_reducible exact Bk.at_ (by simp) | with_reducible refine Bk.alloc ?_ _ | with_reducible refine Bk.drew ?_ | with_reducible refine Bk.drewN ?_ _ | with_reducible refine Bk.step (by with_reducible assumption) ?_ (by first | omega | (simp <;> omega))))
      have hB2 : Below w.heap.size w w2 := (by repeat (first | with_reducible exact Below.refl _ _ | with_reducible assumption | with_reducible refine Below.drew ?_ | with_reducible refine Below.drewN ?_ _ | with_reducible refine Below.alloc2 ?_ _ | with_reducible refine Below.alloc ?_ (by first | omega | (simp <;> omega)) _ | with_reducible refine Below.setCell ?_ (by first | omega | (simp <;> omega)) _ | with_reducible refine Below.step2 (by with_reducible assumption) ?_ | with_reducible refine Below.step (by with_reducible assumption) ?_ (by first | omega | (simp <;> omega))))
      have HT2 := Lib.hid hb2
      obtain ⟨⟨_, _, _, _, _, _⟩, -⟩ := k1.six
      obtain ⟨_, _, _⟩ := k2.three
      obtain ⟨_, _, _⟩ := k3.three
      have oa2 := k1.lt
      have ob2 := k2.lt
      have oc2 := k3.lt
      clear hb2
      go_wp2_with fail
      refine (HS3.out _).mono ?_
      rintro e w3 ⟨hb3, rfl⟩
      have k1 : Bk w3 w.heap.size 23 #[.int .i64 x1, .int .i64 y1, .int .i64 z1, .int .i64 x2, .int .i64 y2, .int .i64 z2] := (by repeat (first | with_reducible assumption | with_reducible exact Bk.at_ (by simp) | with_reducible refine Bk.alloc ?_ _ | with_reducible refine Bk.drew ?_ | with_reducible refine Bk.drewN ?_ _ | with_reducible refine Bk.step (by with_reducible assumption) ?_ (by first | omega | (simp <;> omega))))
      have k2 : Bk w3 (w.heap.size + 1) 36 #[.int .i64 a1, .int .i64 a2, .int .i64 a3] := (by repeat (first | with_reducible assumption | with_reducible exact Bk.at_ (by simp) | with_reducible refine Bk.alloc ?_ _ | with_reducible refine Bk.drew ?_ | with_reducible refine Bk.drewN ?_ _ | with_reducible refine Bk.step (by with_reducible assumption) ?_ (by first | omega | (simp <;> omega))))
      have k3 : Bk w3 (w.heap.size + 1 + 1) 36 #[.int .i64 b1, .int .i64 b2, .int .i64 b3] := (by repeat (first | with_reducible assumption | with_reducible exact Bk.at_ (by simp) | with_reducible refine Bk.alloc ?_ _ | with_reducible refine Bk.drew ?_ | with_reducible refine Bk.drewN ?_ _ | with_reducible refine Bk.step (by with_reducible assumption) ?_ (by first | omega | (simp <;> omega))))
      have hB3 : Below w.heap.size w w3 := (by repeat (first | with_reducible exact Below.refl _ _ | with_reducible assumption | with_reducible refine Below.drew ?_ | with_reducible refine Below.drewN ?_ _ | with_reducible refine Below.alloc2 ?_ _ | with_reducible refine Below.alloc ?_ (by first | omega | (simp <;> omega)) _ | with_reducible refine Below.setCell ?_ (by first | omega | (simp <;> omega)) _ | with_reducible refine Below.step2 (by with_reducible assumption) ?_ | with_reducible refine Below.step (by with_reducible assumption) ?_ (by first | omega | (simp <;> omega))))
      have HT3 := Lib.hid hb3
      obtain ⟨⟨_, _, _, _, _, _⟩, -⟩ := k1.six
      obtain ⟨_, _, _⟩ := k2.three
      obtain ⟨_, _, _⟩ := k3.three
      have oa3 := k1.lt
      have ob3 := k2.lt
      have oc3 := k3.lt
      clear hb3
      go_wp2
      go_ret
      exact ⟨(by repeat (first | with_reducible exact Below.refl _ _ | with_reducible assumption | with_reducible refine Below.drew ?_ | with_reducible refine Below.drewN ?_ _ | with_reducible refine Below.alloc2 ?_ _ | with_reducible refine Below.alloc ?_ (by first | omega | (simp <;> omega)) _ | with_reducible refine Below.setCell ?_ (by first | omega | (simp <;> omega)) _ | with_reducible refine Below.step2 (by with_reducible assumption) ?_ | with_reducible refine Below.step (by with_reducible assumption) ?_ (by first | omega | (simp <;> omega)))), ret_bool HR.out.symm⟩
    · subst h h' h''
      go_enter Try.func18, Try.ntmps18
      go_wp2_with fail
      refine (HS1.out _).mono ?_
      rintro e w1 ⟨hb1, rfl⟩
      have k1 : Bk w1 w.heap.size 23 #[.int .i64 x1, .int .i64 y1, .int .i64 z1, .int .i64 x2, .int .i64 y2, .int .i64 z2] := (by repeat (first | with_reducible assumption | with_reducible exact Bk.at_ (by simp) | with_reducible refine Bk.alloc ?_ _ | with_reducible refine Bk.drew ?_ | with_reducible refine Bk.drewN ?_ _ | with_reducible refine Bk.step (by with_reducible assumption) ?_ (by first | omega | (simp <;> omega))))
      have k2 : Bk w1 (w.heap.size + 1) 36 #[.int .i64 a1, .int .i64 a2, .int .i64 a3] := (by repeat (first | with_reducible assumption | with_reducible exact Bk.at_ (by simp) | with_reducible refine Bk.alloc ?_ _ | with_reducible refine Bk.drew ?_ | with_reducible refine Bk.drewN ?_ _ | with_reducible refine Bk.step (by with_reducible assumption) ?_ (by first | omega | (simp <;> omega))))
      have k3 : Bk w1 (w.heap.size + 1 + 1) 36 #[.int .i64 b1, .int .i64 b2, .int .i64 b3] := (by repeat (first | with_reducible assumption | with_reducible exact Bk.at_ (by simp) | with_reducible refine Bk.alloc ?_ _ | with_reducible refine Bk.drew ?_ | with_reducible refine Bk.drewN ?_ _ | with_reducible refine Bk.step (by with_reducible assumption) ?_ (by first | omega | (simp <;> omega))))
      have hB1 : Below w.heap.size w w1 := (by repeat (first | with_reducible exact Below.refl _ _ | with_reducible assumption | with_reducible refine Below.drew ?_ | with_reducible refine Below.drewN ?_ _ | with_reducible refine Below.alloc2 ?_ _ | with_reducible refine Below.alloc ?_ (by first | omega | (simp <;> omega)) _ | with_reducible refine Below.setCell ?_ (by first | omega | (simp <;> omega)) _ | with_reducible refine Below.step2 (by with_reducible assumption) ?_ | with_reducible refine Below.step (by with_reducible assumption) ?_ (by first | omega | (simp <;> omega))))
      have HT1 := Lib.hid hb1
      obtain ⟨⟨_, _, _, _, _, _⟩, -⟩ := k1.six
      obtain ⟨_, _, _⟩ := k2.three
      obtain ⟨_, _, _⟩ := k3.three
      have oa1 := k1.lt
      have ob1 := k2.lt
      have oc1 := k3.lt
      clear hb1
      go_wp2_with fail
      refine (HS2.out _).mono ?_
      rintro e w2 ⟨hb2, rfl⟩
      have k1 : Bk w2 w.heap.size 23 #[.int .i64 x1, .int .i64 y1, .int .i64 z1, .int .i64 x2, .int .i64 y2, .int .i64 z2] := (by repeat (first | with_reducible assumption | with_reducible exact Bk.at_ (by simp) | with_reducible refine Bk.alloc ?_ _ | with_reducible refine Bk.drew ?_ | with_reducible refine Bk.drewN ?_ _ | with_reducible refine Bk.step (by with_reducible assumption) ?_ (by first | omega | (simp <;> omega))))
      have k2 : Bk w2 (w.heap.size + 1) 36 #[.int .i64 a1, .int .i64 a2, .int .i64 a3] := (by repeat (first | with_reducible assumption | with_reducible exact Bk.at_ (by simp) | with_reducible refine Bk.alloc ?_ _ | with_reducible refine Bk.drew ?_ | with_reducible refine Bk.drewN ?_ _ | with_reducible refine Bk.step (by with_reducible assumption) ?_ (by first | omega | (simp <;> omega))))
      have k3 : Bk w2 (w.heap.size + 1 + 1) 36 #[.int .i64 b1, .int .i64 b2, .int .i64 b3] := (by repeat (first | with_reducible assumption | with_reducible exact Bk.at_ (by simp) | with_reducible refine Bk.alloc ?_ _ | with_reducible refine Bk.drew ?_ | with_reducible refine Bk.drewN ?_ _ | with_reducible refine Bk.step (by with_reducible assumption) ?_ (by first | omega | (simp <;> omega))))
      have hB2 : Below w.heap.size w w2 := (by repeat (first | with_reducible exact Below.refl _ _ | with_reducible assumption | with_reducible refine Below.drew ?_ | with_reducible refine Below.drewN ?_ _ | with_reducible refine Below.alloc2 ?_ _ | with_reducible refine Below.alloc ?_ (by first | omega | (simp <;> omega)) _ | with_reducible refine Below.setCell ?_ (by first | omega | (simp <;> omega)) _ | with_reducible refine Below.step2 (by with_reducible assumption) ?_ | with_reducible refine Below.step (by with_reducible assumption) ?_ (by first | omega | (simp <;> omega))))
      have HT2 := Lib.hid hb2
      obtain ⟨⟨_, _, _, _, _, _⟩, -⟩ := k1.six
      obtain ⟨_, _, _⟩ := k2.three
      obtain ⟨_, _, _⟩ := k3.three
      have oa2 := k1.lt
      have ob2 := k2.lt
      have oc2 := k3.lt
      clear hb2
      go_wp2_with fail
      refine (HS3.out _).mono ?_
      rintro e w3 ⟨hb3, rfl⟩
      have k1 : Bk w3 w.heap.size 23 #[.int .i64 x1, .int .i64 y1, .int .i64 z1, .int .i64 x2, .int .i64 y2, .int .i64 z2] := (by repeat (first | with_reducible assumption | with_reducible exact Bk.at_ (by simp) | with_reducible refine Bk.alloc ?_ _ | with_reducible refine Bk.drew ?_ | with_reducible refine Bk.drewN ?_ _ | with_reducible refine Bk.step (by with_reducible assumption) ?_ (by first | omega | (simp <;> omega))))
      have k2 : Bk w3 (w.heap.size + 1) 36 #[.int .i64 a1, .int .i64 a2, .int .i64 a3] := (by repeat (first | with_reducible assumption | with_reducible exact Bk.at_ (by simp) | with_reducible refine Bk.alloc ?_ _ | with_reducible refine Bk.drew ?_ | with_reducible refine Bk.drewN ?_ _ | with_reducible refine Bk.step (by with_reducible assumption) ?_ (by first | omega | (simp <;> omega))))
      have k3 : Bk w3 (w.heap.size + 1 + 1) 36 #[.int .i64 b1, .int .i64 b2, .int .i64 b3] := (by repeat (first | with_reducible assumption | with_reducible exact Bk.at_ (by simp) | with_reducible refine Bk.alloc ?_ _ | with_reducible refine Bk.drew ?_ | with_reducible refine Bk.drewN ?_ _ | with_reducible refine Bk.step (by with_reducible assumption) ?_ (by first | omega | (simp <;> omega))))
      have hB3 : Below w.heap.size w w3 := (by repeat (first | with_reducible exact Below.refl _ _ | with_reducible assumption | with_reducible refine Below.drew ?_ | with_reducible refine Below.drewN ?_ _ | with_reducible refine Below.alloc2 ?_ _ | with_reducible refine Below.alloc ?_ (by first | omega | (simp <;> omega)) _ | with_reducible refine Below.setCell ?_ (by first | omega | (simp <;> omega)) _ | with_reducible refine Below.step2 (by with_reducible assumption) ?_ | with_reducible refine Below.step (by with_reducible assumption) ?_ (by first | omega | (simp <;> omega))))
      have HT3 := Lib.hid hb3
      obtain ⟨⟨_, _, _, _, _, _⟩, -⟩ := k1.six
      obtain ⟨_, _, _⟩ := k2.three
      obtain ⟨_, _, _⟩ := k3.three
      have oa3 := k1.lt
      have ob3 := k2.lt
      have oc3 := k3.lt
      clear hb3
      go_wp2
      go_ret
      exact ⟨(by repeat (first | with_reducible exact Below.refl _ _ | with_reducible assumption | with_reducible refine Below.drew ?_ | with_reducible refine Below.drewN ?_ _ | with_reducible refine Below.alloc2 ?_ _ | with_reducible refine Below.alloc ?_ (by first | omega | (simp <;> omega)) _ | with_reducible refine Below.setCell ?_ (by first | omega | (simp <;> omega)) _ | with_reducible refine Below.step2 (by with_reducible assumption) ?_ | with_reducible refine Below.step (by with_reducible assumption) ?_ (by first | omega | (simp <;> omega)))), ret_bool HR.out.symm⟩

end Go.Proofs.Ytbfbjpnmgcpjlaa
