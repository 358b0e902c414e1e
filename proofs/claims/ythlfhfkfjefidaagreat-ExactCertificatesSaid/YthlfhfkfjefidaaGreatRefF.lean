/- Several texts in one. -/
import Derived.Test.YthlfhfkfjefidaaGreatSignI
import Derived.Test.YthlfhfkfjefidaaGreatIntG
import Derived.Test.YthlfhfkfjefidaaGreatFrac1
import Derived.Test.YthlfhfkfjefidaaGreatSmaG
import Derived.Test.YthlfhfkfjefidaaGreatLinG
import Derived.Test.YthlfhfkfjefidaaGreatRefDivB
import Derived.Test.YthlfhfkfjefidaaGreatRefB
/- The reference's short and quick. -/
namespace Go.Proofs.YthlfhfkfjefidaaGreat
open Go.RowKit
theorem val_ge_at : ∀ {l : List Nat} {k x : Nat}, l[k]? = some x → W k * x ≤ val l
 | [], _, _, h => by simp at h
 | y :: r, 0, x, h => by simp at h; subst h; simp only [val, W_zero]; omega
 | y :: r, k + 1, x, h => by
   simp only [List.getElem?_cons_succ] at h
   have ih := val_ge_at h
   rw [W_succ, Nat.mul_assoc]
   simp only [val]; omega
def shortV (z : Int) : Value := if z.natAbs < 1073741824 then .tuple #[.int .i64 z, .bool true] else .tuple #[.int .i64 0, .bool false]
theorem shortV_in {z : Int} (h : z.natAbs < 1073741824) : shortV z = .tuple #[.int .i64 z, .bool true] := if_pos h
theorem shortV_out {z : Int} (h : 1073741824 ≤ z.natAbs) : shortV z = .tuple #[.int .i64 0, .bool false] := if_neg (by omega)
set_option maxRecDepth 100000 in
set_option maxHeartbeats 4000000 in
theorem short_any1 (s : Bool) (A : Option Addr) (n c : Nat) (l : List Nat) (w : World) (hl : Lim w w.heap.size A n c l) :
 Calls Tryz.prog 109 #[.agg #[.bool s, .slice A n c]] w fun e w' => Below w.heap.size w w' ∧ e = .returned (shortV (sg s (val l))) := by
 have hcap := hl.cap
 have hmax := hl.max
 have HLEN := Lib.hid hl.len
 have H : Hid (∀ w', Below w.heap.size w w' → Lim w' w.heap.size A n c l) := fun w' hb => hl.below hb (Nat.le_refl _) (Nat.le_refl _)
 clear hl
 go_enter Tryz.func109, Tryz.ntmps109
 go_wp2
 go_loopw [4, 5] (fun v x wr => ∃ k m : Nat, k ≤ n ∧ x = .int .i64 k ∧ v = .int .i64 (m : Int) ∧ m < 1073741824 ∧ Hid (val (l.take k) = m) ∧ Bk wr w.heap.size 24 #[.bool s, .slice A n c] ∧ Below w.heap.size w wr) (fun _ x _ => n - (intOf x).toNat)
 case atStart => exact ⟨0, 0, Nat.zero_le _, rfl, rfl, by omega, Lib.hid rfl, Bk.alloc_ _ _ _, (by repeat (first | exact Below.refl _ _ | assumption | refine Below.drew ?_ | refine Below.drewN ?_ _ | refine Below.alloc ?_ (by simp <;> omega) _ | refine Below.setCell ?_ (by simp <;> omega) _))⟩
 case round =>
  obtain ⟨k, m, hk, rfl, rfl, hm, HZ, hbk, hb⟩ := hrel
  have HBR := Lib.hid hb
  have HBK := Lib.hid hbk
  have ow := hb.size
  have og := hbk.lt
  have a0 : wr.cell? ⟨w.heap.size, 1, none⟩ = some (.slice A n c) := by simpa using hbk.cell 1
  have a1 : wr.cell? ⟨w.heap.size, 0, none⟩ = some (.bool s) := by simpa using hbk.cell 0
  clear hbk
  by_cases hlt : k < n
  · obtain ⟨b, o, x, rfl, hbb, hx, hxb, c0⟩ := (H.out _ hb).at_ hlt
    have HX := Lib.hid hx
    have hge := val_ge_at hx
    have hst := val_take_get l hx
    clear hx hb
    rcases Nat.eq_zero_or_pos k with h0 | h0
    · subst h0
      rw [W_zero, Nat.one_mul] at hge
      rw [Nat.add_zero] at c0
      have hm0 : m = 0 := by rw [← HZ.out]; rfl
      subst hm0
      rcases Nat.lt_or_ge x 1073741824 with h1 | h1
      · have hT : val (l.take 1) = x := by rw [hst, W_zero]; simp [val]
        have HT := Lib.hid hT
        have hd : decide ((1073741824 : Int) ≤ (x : Int)) = false := decide_eq_false (by omega)
        clear hT hst hge
        go_wp2
        go_roundw
        case rel => exact ⟨1, x, by omega, rfl, by simp, h1, HT, HBK.out, HBR.out⟩
        case measure => (simp [intOf] <;> omega)
      · have HV := Lib.hid (shortV_out (z := sg s (val l)) (by rw [sg_abs]; omega))
        have hd : decide ((1073741824 : Int) ≤ (x : Int)) = true := decide_eq_true (by omega)
        clear hst hge
        (
         go_wp2
         refine bodyPost_ret (results_tmp2 rfl _ _ _) rfl ?_
         exact ⟨HBR.out, by rw [HV.out]; rfl⟩)
    · have hk0 : (0 : Int) < (k : Int) := by omega
      have hkd : decide ((0 : Int) < (k : Int)) = true := decide_eq_true hk0
      rcases Nat.eq_zero_or_pos x with h1 | h1
      · subst h1
        have HT : Hid (val (l.take (k + 1)) = m) := Lib.hid (by rw [hst, HZ.out]; simp)
        clear hst hge
        go_wp2
        go_roundw
        case rel => exact ⟨k + 1, m, by omega, by go_num, by simp, hm, HT, HBK.out, HBR.out⟩
        case measure => (simp [intOf]; omega)
      · have hxn : ((x : Int) == 0) = false := by simp; omega
        have hxm : ¬ (x : Int) = 0 := by omega
        have HV : Hid (shortV (sg s (val l)) = .tuple #[.int .i64 0, .bool false]) := Lib.hid (shortV_out (by
         rw [sg_abs]
         have h2 : W 1 ≤ W k := W_mono (by omega)
         have h3 : W 1 = 4294967296 := by decide
         have h4 : W k * 1 ≤ W k * x := Nat.mul_le_mul_left _ (by omega)
         omega))
        clear hst hge
        (
         go_wp2
         refine bodyPost_ret (results_tmp2 rfl _ _ _) rfl ?_
         exact ⟨HBR.out, by rw [HV.out]; rfl⟩)
  · obtain rfl : k = n := by omega
    have hz := HZ.out
    rw [List.take_of_length_le (by rw [HLEN.out]; exact Nat.le_refl _)] at hz
    have HV := Lib.hid (shortV_in (z := sg s (val l)) (by rw [sg_abs, hz]; exact hm))
    rw [hz] at HV
    have HZ2 := Lib.hid hz
    clear hb hz
    cases s
    · (
       go_wp2
       refine bodyPost_ret (results_tmp2 rfl _ _ _) rfl ?_
       exact ⟨HBR.out, by rw [HZ2.out, HV.out]; rfl⟩)
    · (
       go_wp2
       refine bodyPost_ret (results_tmp2 rfl _ _ _) rfl ?_
       exact ⟨HBR.out, by rw [HZ2.out, HV.out]; rfl⟩)
end Go.Proofs.YthlfhfkfjefidaaGreat
/- The reference's quick. -/
namespace Go.Proofs.YthlfhfkfjefidaaGreat
open Go.RowKit
theorem shortV_two (z : Int) : ∃ (a : Int) (b : Bool), shortV z = .tuple #[.int .i64 a, .bool b] ∧ (b = true → a = z ∧ z.natAbs < 1073741824) ∧ (b = false → a = 0) ∧ a.natAbs < 1073741824 := by
 unfold shortV
 split
 · rename_i h
   exact ⟨z, true, rfl, fun _ => ⟨rfl, h⟩, (fun h => by cases h), h⟩
 · exact ⟨0, false, rfl, (fun h => by cases h), fun _ => rfl, by omega⟩
def QuickR (p q : Int) (w : World) (e : Ending) (w' : World) : Prop :=
 Below w.heap.size w w' ∧ ∃ (a b : Int) (ok : Bool), e = .returned (.tuple #[.int .i64 a, .int .i64 b, .bool ok]) ∧ a.natAbs < 1073741824 ∧ b.natAbs < 1073741824 ∧ b ≠ 0 ∧ (ok = true → a = p ∧ b = (if q = 0 then 1 else q))
theorem QuickR.out {p q : Int} {w w' : World} {e : Ending} (h : QuickR p q w e w') : Below w.heap.size w w' ∧ ∃ (a b : Int) (ok : Bool), e = .returned (.tuple #[.int .i64 a, .int .i64 b, .bool ok]) ∧ a.natAbs < 1073741824 ∧ b.natAbs < 1073741824 ∧ b ≠ 0 ∧ (ok = true → a = p ∧ b = (if q = 0 then 1 else q)) := h
section
variable {w w1 w2 : World} {s s1 s2 : Bool} {A A1 A2 : Option Addr} {n c n1 c1 n2 c2 : Nat} {p q x y : Int} {K K1 K2 : Nat} {nf f1 f2 : Bool}
theorem rshortH (h : IntH w1 s A n c x K nf) (b : Below w1.heap.size w1 w) {v : Value} (hv : shortV x = v) :
 Calls Tryz.prog 109 #[.agg #[.bool s, .slice A n c]] w fun e w' => Below w.heap.size w w' ∧ e = .returned v := by
 obtain ⟨l1, g1, rfl, -⟩ := h.lim
 subst hv
 exact short_any1 s A n c l1 w (g1 w b)
set_option maxRecDepth 100000 in
set_option maxHeartbeats 4000000 in
theorem rquickH (h1 : IntH w1 s1 A1 n1 c1 p K1 f1) (h2 : IntH w2 s2 A2 n2 c2 q K2 f2) (b1 : Below w1.heap.size w1 w) (b2 : Below w2.heap.size w2 w) :
 Calls Tryz.prog 74 #[.agg #[.bool s1, .slice A1 n1 c1, .bool s2, .slice A2 n2 c2]] w (QuickR p q w) := by
 obtain ⟨a, ba, hA, hA1, hA2, hA3⟩ := shortV_two p
 obtain ⟨b, bb, hB, hB1, hB2, hB3⟩ := shortV_two q
 have HA1 := Lib.hid hA1
 have HB1 := Lib.hid hB1
 have HB2 := Lib.hid hB2
 clear hA1 hA2 hB1 hB2
 by_cases hb : b = 0
 · subst hb
   cases ba
   · (
      go_enter Tryz.func74, Tryz.ntmps74
      go_wp2_with (first
       | (go_at_call 109; with_reducible refine (rshortH h1 ?_ hA).mono ?_; (focus (exact bl)); rintro e wa ⟨hba, rfl⟩; have k2 : Bk wa w.heap.size 41 #[.bool s1, .slice A1 n1 c1, .bool s2, .slice A2 n2 c2] := bk; obtain ⟨u0, u1⟩ : wa.cell? ⟨w.heap.size, 2, none⟩ = some (.bool s2) ∧ wa.cell? ⟨w.heap.size, 3, none⟩ = some (.slice A2 n2 c2) := ⟨by simpa using k2.cell 2, by simpa using k2.cell 3⟩; have HBA := Lib.hid hba; have ol := k2.lt; clear k2)
       | (go_at_call 109; go_loud (with_reducible refine (rshortH h2 ?_ hB).mono ?_; (focus (have hba := HBA.out; exact bl)); rintro e wb ⟨hbb, rfl⟩)))
      refine bodyPost_ret (results_tmp3 rfl _ _ _) rfl ?_
      have hba := HBA.out)
     exact ⟨bl, a, 1, false, rfl, hA3, by omega, by omega, fun h => by cases h⟩
   · (
      go_enter Tryz.func74, Tryz.ntmps74
      go_wp2_with (first
       | (go_at_call 109; with_reducible refine (rshortH h1 ?_ hA).mono ?_; (focus (exact bl)); rintro e wa ⟨hba, rfl⟩; have k2 : Bk wa w.heap.size 41 #[.bool s1, .slice A1 n1 c1, .bool s2, .slice A2 n2 c2] := bk; obtain ⟨u0, u1⟩ : wa.cell? ⟨w.heap.size, 2, none⟩ = some (.bool s2) ∧ wa.cell? ⟨w.heap.size, 3, none⟩ = some (.slice A2 n2 c2) := ⟨by simpa using k2.cell 2, by simpa using k2.cell 3⟩; have HBA := Lib.hid hba; have ol := k2.lt; clear k2)
       | (go_at_call 109; go_loud (with_reducible refine (rshortH h2 ?_ hB).mono ?_; (focus (have hba := HBA.out; exact bl)); rintro e wb ⟨hbb, rfl⟩)))
      refine bodyPost_ret (results_tmp3 rfl _ _ _) rfl ?_
      have hba := HBA.out)
     exact ⟨bl, a, 1, bb, rfl, hA3, by omega, by omega, fun h => ⟨(HA1.out (by trivial)).1, by rw [if_pos (HB1.out h).1.symm]⟩⟩
 · have hbb : (b == 0) = false := by simpa using hb
   cases ba
   · (
      go_enter Tryz.func74, Tryz.ntmps74
      go_wp2_with (first
       | (go_at_call 109; with_reducible refine (rshortH h1 ?_ hA).mono ?_; (focus (exact bl)); rintro e wa ⟨hba, rfl⟩; have k2 : Bk wa w.heap.size 41 #[.bool s1, .slice A1 n1 c1, .bool s2, .slice A2 n2 c2] := bk; obtain ⟨u0, u1⟩ : wa.cell? ⟨w.heap.size, 2, none⟩ = some (.bool s2) ∧ wa.cell? ⟨w.heap.size, 3, none⟩ = some (.slice A2 n2 c2) := ⟨by simpa using k2.cell 2, by simpa using k2.cell 3⟩; have HBA := Lib.hid hba; have ol := k2.lt; clear k2)
       | (go_at_call 109; go_loud (with_reducible refine (rshortH h2 ?_ hB).mono ?_; (focus (have hba := HBA.out; exact bl)); rintro e wb ⟨hbb, rfl⟩)))
      refine bodyPost_ret (results_tmp3 rfl _ _ _) rfl ?_
      have hba := HBA.out)
     exact ⟨bl, a, b, false, rfl, hA3, hB3, hb, fun h => by cases h⟩
   · (
      go_enter Tryz.func74, Tryz.ntmps74
      go_wp2_with (first
       | (go_at_call 109; with_reducible refine (rshortH h1 ?_ hA).mono ?_; (focus (exact bl)); rintro e wa ⟨hba, rfl⟩; have k2 : Bk wa w.heap.size 41 #[.bool s1, .slice A1 n1 c1, .bool s2, .slice A2 n2 c2] := bk; obtain ⟨u0, u1⟩ : wa.cell? ⟨w.heap.size, 2, none⟩ = some (.bool s2) ∧ wa.cell? ⟨w.heap.size, 3, none⟩ = some (.slice A2 n2 c2) := ⟨by simpa using k2.cell 2, by simpa using k2.cell 3⟩; have HBA := Lib.hid hba; have ol := k2.lt; clear k2)
       | (go_at_call 109; go_loud (with_reducible refine (rshortH h2 ?_ hB).mono ?_; (focus (have hba := HBA.out; exact bl)); rintro e wb ⟨hbb, rfl⟩)))
      refine bodyPost_ret (results_tmp3 rfl _ _ _) rfl ?_
      have hba := HBA.out)
     exact ⟨bl, a, b, bb, rfl, hA3, hB3, hb, fun h => ⟨(HA1.out (by trivial)).1, by rw [if_neg (by rw [← (HB1.out h).1]; exact hb)]; exact (HB1.out h).1⟩⟩
end
end Go.Proofs.YthlfhfkfjefidaaGreat
/- The reference's lowest. -/
namespace Go.Proofs.YthlfhfkfjefidaaGreat
open Go.RowKit
theorem sg_tdiv (s t : Bool) (a g : Nat) : (sg s a).tdiv (sg t g) = sg (s != t) (a / g) := by
 have h : (a : Int).tdiv (g : Int) = ((a / g : Nat) : Int) := rfl
 cases s <;> cases t <;> simp [sg, Int.neg_tdiv, Int.tdiv_neg, h]
theorem sg_of (z : Int) : z = sg (decide (z < 0)) z.natAbs := by
 by_cases h : z < 0
 · simp [sg, h]; omega
 · simp [sg, h]; omega
theorem low_parts {a b : Int} (hb : b ≠ 0) : (Rat.divInt a b).num = a.tdiv (sg (decide (b < 0)) (Nat.gcd a.natAbs b.natAbs)) ∧ ((Rat.divInt a b).den : Int) = b.tdiv (sg (decide (b < 0)) (Nat.gcd a.natAbs b.natAbs)) := by
 have hB : 0 < b.natAbs := by omega
 have h1 := rat_num (decide (a < 0)) (decide (b < 0)) a.natAbs b.natAbs hB
 have h2 := rat_den (decide (a < 0)) (decide (b < 0)) a.natAbs b.natAbs hB
 have h3 := sg_tdiv (decide (a < 0)) (decide (b < 0)) a.natAbs (Nat.gcd a.natAbs b.natAbs)
 have h4 := sg_tdiv (decide (b < 0)) (decide (b < 0)) b.natAbs (Nat.gcd a.natAbs b.natAbs)
 rw [← sg_of, ← sg_of] at h1 h2
 rw [← sg_of] at h3 h4
 rw [h1, h2, h3, h4]
 simp [sg]
theorem RatH.of_ints {w : World} {s1 s2 : Bool} {A1 A2 : Option Addr} {n1 c1 n2 c2 : Nat} {x : Rat} {K : Nat} (h1 : IntH w s1 A1 n1 c1 x.num K true) (h2 : IntH w s2 A2 n2 c2 (x.den : Int) K true) : RatH w s1 A1 n1 c1 s2 A2 n2 c2 x K true := by
 obtain ⟨l1, g1, e1, p1⟩ := h1.lim
 obtain ⟨l2, g2, e2, p2⟩ := h2.lim
 refine ⟨⟨l1, l2, g1, g2, ?_, fun _ => ⟨(p1 rfl).1, (p1 rfl).2, (p2 rfl).1, (p2 rfl).2, e1, e2⟩⟩, h1.len, h2.len⟩
 rw [← e1, ← e2]
 exact (frac_rat x).symm
theorem tdiv_bd (a : Int) (g : Int) : (a.tdiv g).natAbs ≤ a.natAbs := by
 rw [Int.natAbs_tdiv]
 exact Nat.div_le_self _ _
theorem below_drw {w w' : World} (h : Below w.drew.heap.size w.drew w') : Below w.heap.size w w' := ((Below.refl _ _).drew).trans h
theorem set_four {w : World} {g o1 o2 o3 o4 : Nat} (u1 u2 u3 u4 : Value) : ∀ p : Addr, p.block ≠ g → ((((w.setCell ⟨g, o1, none⟩ u1).setCell ⟨g, o2, none⟩ u2).setCell ⟨g, o3, none⟩ u3).setCell ⟨g, o4, none⟩ u4).cell? p = w.cell? p := fun p hp => by
 have h : ∀ (w : World) (o : Nat) (u : Value), (w.setCell ⟨g, o, none⟩ u).cell? p = w.cell? p := fun w o u => World.cell?_setCell_other w _ _ u (fun e => hp (by rw [← e]))
 rw [h, h, h, h]
theorem Bk.four4 {w : World} {g t : Nat} {a b c d : Value} (h : Bk w g t #[a, b, c, d]) : w.cell? ⟨g, 0, none⟩ = some a ∧ w.cell? ⟨g, 1, none⟩ = some b ∧ w.cell? ⟨g, 2, none⟩ = some c ∧ w.cell? ⟨g, 3, none⟩ = some d :=
 ⟨by simpa using h.cell 0, by simpa using h.cell 1, by simpa using h.cell 2, by simpa using h.cell 3⟩
set_option maxRecDepth 100000 in
set_option maxHeartbeats 8000000 in
theorem lowest_any (a b : Int) (w : World) (ha : a.natAbs ≤ 4611686018427387904) (hb : b.natAbs ≤ 4611686018427387904) (h0 : b ≠ 0) :
 Calls Tryz.prog 75 #[.int .i64 a, .int .i64 b] w (MakesRat (Rat.divInt a b) 2 w) := by
 have HLP := Lib.hid (low_parts (a := a) h0)
 have HTA := tdiv_bd a (sg (decide (b < 0)) (Nat.gcd a.natAbs b.natAbs))
 have HTB := tdiv_bd b (sg (decide (b < 0)) (Nat.gcd a.natAbs b.natAbs))
 go_enter Tryz.func75, Tryz.ntmps75
 go_wp2
 go_loopw [5, 6] (fun x y wr => ∃ X Y : Nat, x = .int .i64 (X : Int) ∧ y = .int .i64 (Y : Int) ∧ X ≤ 4611686018427387904 ∧ Y ≤ 4611686018427387904 ∧ Hid (Nat.gcd X Y = Nat.gcd a.natAbs b.natAbs) ∧ Bk wr w.heap.size 41 #[.bool false, .slice none 0 0, .bool false, .slice none 0 0] ∧ Below w.heap.size w wr) (fun _ y _ => (intOf y).toNat)
 case atStart => exact ⟨a.natAbs, b.natAbs, congrArg (Value.int .i64) (by omega), congrArg (Value.int .i64) (by omega), ha, hb, Lib.hid rfl, Bk.alloc_ _ _ _, (by repeat (first | exact Below.refl _ _ | assumption | refine Below.drew ?_ | refine Below.drewN ?_ _ | refine Below.alloc ?_ (by simp <;> omega) _ | refine Below.setCell ?_ (by simp <;> omega) _))⟩
 case round =>
  obtain ⟨X, Y, rfl, rfl, hX, hY, HG, hbk, hbr⟩ := hrel
  have HBR := Lib.hid hbr
  have HBK := Lib.hid hbk
  have ow := hbr.size
  have og := hbk.lt
  clear hbr hbk
  rcases Nat.eq_zero_or_pos Y with hY0 | hY0
  · subst hY0
    have hg := HG.out
    rw [Nat.gcd_zero_right] at hg
    have hXp : 0 < X := by
     rw [hg]
     exact Nat.gcd_pos_of_pos_right _ (by omega)
    have hN := HLP.out
    rw [← hg] at hN HTA HTB
    have HX := Lib.hid hg
    rcases Int.lt_or_le b 0 with hb0 | hb0
    · rw [decide_eq_true hb0, sg_true] at hN HTA HTB
      have hd : decide (b < 0) = true := decide_eq_true hb0
      have hxn : ¬ -(X : Int) = 0 := by omega
      (
       obtain ⟨N, hNN⟩ : ∃ N, a.tdiv (-(X : Int)) = N := ⟨_, rfl⟩
       obtain ⟨D, hDD⟩ : ∃ D, b.tdiv (-(X : Int)) = D := ⟨_, rfl⟩
       rw [hNN] at hN HTA
       rw [hDD] at hN HTB
       have HP := Lib.hid hN
       clear hg hN
       go_upto_region 6 with fail
       refine region_goes (n := 10) (fun _ => True) [] (by kernel_rfl) rfl ?_
       refine goes_take (i := 0) (v := .int .i64 a) rfl (by kernel_rfl) rfl (fun _ _ _ h => h) (by intro w' hw'; go_simp) trivial ?_
       refine goes_take (i := 1) (v := .int .i64 (-(X : Int))) rfl (by kernel_rfl) rfl (fun _ _ _ h => h) (by intro w' hw'; go_simp) trivial ?_
       refine goes_take (i := 4) (v := .int .i64 b) rfl (by kernel_rfl) rfl (fun _ _ _ h => h) (by intro w' hw'; go_simp) trivial ?_
       refine goes_take (i := 5) (v := .int .i64 (-(X : Int))) rfl (by kernel_rfl) rfl (fun _ _ _ h => h) (by intro w' hw'; go_simp) trivial ?_
       have hx0 : ¬ X = 0 := by omega
       have n1 : -9223372036854775808 ≤ N := by omega
       have n2 : N ≤ 9223372036854775807 := by omega
       have d1 : -9223372036854775808 ≤ D := by omega
       have d2 : D ≤ 9223372036854775807 := by omega
       refine goes_take (i := 2) (v := .int .i64 N) rfl (by kernel_rfl) rfl (fun _ _ _ h => h) (by intro w' hw'; go_simp; exact IntWalk.i64_in _ (by omega)) trivial ?_
       refine goes_take (i := 6) (v := .int .i64 D) rfl (by kernel_rfl) rfl (fun _ _ _ h => h) (by intro w' hw'; go_simp; exact IntWalk.i64_in _ (by omega)) trivial ?_
       refine goes_call (i := 3) rfl (by kernel_rfl) ?_
       go_wp2_with (go_at_call 13; go_loud (with_reducible refine (rofH N _ n1 n2).mono ?_; rintro e wa ⟨hba, sa, Aa, na, ca, rfl, ia⟩; have HBA := Lib.hid (below_to HBR.out (below_drw hba) HBR.out.size); have HKA := Lib.hid (HBK.out.below (below_drw hba) og); have HIA := Lib.hid ia; clear hba ia))
       refine behind_ok ⟨trivial, ?_⟩
       refine goes_call (i := 7) rfl (by kernel_rfl) ?_
       go_wp2_with (go_at_call 13; go_loud (with_reducible refine (rofH D _ d1 d2).mono ?_; rintro e wb ⟨hbb, sb, Ab, nb, cb, rfl, ib⟩; have HBB := Lib.hid (below_to HBA.out hbb HBA.out.size); have hkb := HKA.out.below hbb HKA.out.lt; have HIB := Lib.hid ib; have HIA2 := Lib.hid (HIA.out.later hbb); obtain ⟨k0, k1, k2, k3⟩ := hkb.four4; have f0 := hkb.frozen 0; have f1 := hkb.frozen 1; have f2 := hkb.frozen 2; have f3 := hkb.frozen 3; have HKB := Lib.hid hkb; clear hbb ib hkb))
       refine behind_ok ⟨trivial, ?_⟩
       refine goes_call (i := 8) rfl (by kernel_rfl) ?_
       go_wp2_with fail
       refine behind_ok ⟨trivial, ?_⟩
       refine goes_call (i := 9) rfl (by kernel_rfl) ?_
       go_wp2_with fail
       refine behind_ok ⟨trivial, ?_⟩
       refine goes_done (by kernel_rfl) ?_
       go_wp2
       have hp := HP.out
       have iA : IntH wb sa Aa na ca (Rat.divInt a b).num 2 true := by rw [hp.1]; exact HIA2.out
       have iB : IntH wb sb Ab nb cb ((Rat.divInt a b).den : Int) 2 true := by rw [hp.2]; exact HIB.out
       refine bodyPost_ret (v := .agg #[.bool sa, .slice Aa na ca, .bool sb, .slice Ab nb cb]) (by simp [results, Tryz.results75, go_sem, k0, k1, k2, k3]) rfl ?_
       exact ⟨(((HBB.out.setCell (Nat.le_refl _) _).setCell (Nat.le_refl _) _).setCell (Nat.le_refl _) _).setCell (Nat.le_refl _) _, sa, Aa, na, ca, sb, Ab, nb, cb, rfl, (RatH.of_ints iA iB).stored HKB.out (set_four _ _ _ _) (by simp [World.setCell])⟩)
    · rw [decide_eq_false (by omega), sg_false] at hN HTA HTB
      have hd : decide (b < 0) = false := decide_eq_false (by omega)
      have hxn : ¬ (X : Int) = 0 := by omega
      (
       obtain ⟨N, hNN⟩ : ∃ N, a.tdiv ((X : Int)) = N := ⟨_, rfl⟩
       obtain ⟨D, hDD⟩ : ∃ D, b.tdiv ((X : Int)) = D := ⟨_, rfl⟩
       rw [hNN] at hN HTA
       rw [hDD] at hN HTB
       have HP := Lib.hid hN
       clear hg hN
       go_upto_region 6 with fail
       refine region_goes (n := 10) (fun _ => True) [] (by kernel_rfl) rfl ?_
       refine goes_take (i := 0) (v := .int .i64 a) rfl (by kernel_rfl) rfl (fun _ _ _ h => h) (by intro w' hw'; go_simp) trivial ?_
       refine goes_take (i := 1) (v := .int .i64 ((X : Int))) rfl (by kernel_rfl) rfl (fun _ _ _ h => h) (by intro w' hw'; go_simp) trivial ?_
       refine goes_take (i := 4) (v := .int .i64 b) rfl (by kernel_rfl) rfl (fun _ _ _ h => h) (by intro w' hw'; go_simp) trivial ?_
       refine goes_take (i := 5) (v := .int .i64 ((X : Int))) rfl (by kernel_rfl) rfl (fun _ _ _ h => h) (by intro w' hw'; go_simp) trivial ?_
       have hx0 : ¬ X = 0 := by omega
       have n1 : -9223372036854775808 ≤ N := by omega
       have n2 : N ≤ 9223372036854775807 := by omega
       have d1 : -9223372036854775808 ≤ D := by omega
       have d2 : D ≤ 9223372036854775807 := by omega
       refine goes_take (i := 2) (v := .int .i64 N) rfl (by kernel_rfl) rfl (fun _ _ _ h => h) (by intro w' hw'; go_simp; exact IntWalk.i64_in _ (by omega)) trivial ?_
       refine goes_take (i := 6) (v := .int .i64 D) rfl (by kernel_rfl) rfl (fun _ _ _ h => h) (by intro w' hw'; go_simp; exact IntWalk.i64_in _ (by omega)) trivial ?_
       refine goes_call (i := 3) rfl (by kernel_rfl) ?_
       go_wp2_with (go_at_call 13; go_loud (with_reducible refine (rofH N _ n1 n2).mono ?_; rintro e wa ⟨hba, sa, Aa, na, ca, rfl, ia⟩; have HBA := Lib.hid (below_to HBR.out (below_drw hba) HBR.out.size); have HKA := Lib.hid (HBK.out.below (below_drw hba) og); have HIA := Lib.hid ia; clear hba ia))
       refine behind_ok ⟨trivial, ?_⟩
       refine goes_call (i := 7) rfl (by kernel_rfl) ?_
       go_wp2_with (go_at_call 13; go_loud (with_reducible refine (rofH D _ d1 d2).mono ?_; rintro e wb ⟨hbb, sb, Ab, nb, cb, rfl, ib⟩; have HBB := Lib.hid (below_to HBA.out hbb HBA.out.size); have hkb := HKA.out.below hbb HKA.out.lt; have HIB := Lib.hid ib; have HIA2 := Lib.hid (HIA.out.later hbb); obtain ⟨k0, k1, k2, k3⟩ := hkb.four4; have f0 := hkb.frozen 0; have f1 := hkb.frozen 1; have f2 := hkb.frozen 2; have f3 := hkb.frozen 3; have HKB := Lib.hid hkb; clear hbb ib hkb))
       refine behind_ok ⟨trivial, ?_⟩
       refine goes_call (i := 8) rfl (by kernel_rfl) ?_
       go_wp2_with fail
       refine behind_ok ⟨trivial, ?_⟩
       refine goes_call (i := 9) rfl (by kernel_rfl) ?_
       go_wp2_with fail
       refine behind_ok ⟨trivial, ?_⟩
       refine goes_done (by kernel_rfl) ?_
       go_wp2
       have hp := HP.out
       have iA : IntH wb sa Aa na ca (Rat.divInt a b).num 2 true := by rw [hp.1]; exact HIA2.out
       have iB : IntH wb sb Ab nb cb ((Rat.divInt a b).den : Int) 2 true := by rw [hp.2]; exact HIB.out
       refine bodyPost_ret (v := .agg #[.bool sa, .slice Aa na ca, .bool sb, .slice Ab nb cb]) (by simp [results, Tryz.results75, go_sem, k0, k1, k2, k3]) rfl ?_
       exact ⟨(((HBB.out.setCell (Nat.le_refl _) _).setCell (Nat.le_refl _) _).setCell (Nat.le_refl _) _).setCell (Nat.le_refl _) _, sa, Aa, na, ca, sb, Ab, nb, cb, rfl, (RatH.of_ints iA iB).stored HKB.out (set_four _ _ _ _) (by simp [World.setCell])⟩)
  · have hyi : ¬ (Y : Int) = 0 := by omega
    go_wp2
    go_quiet (fail)
    go_wp2
    refine ⟨⟨Y, X % Y, rfl, rfl, hY, Nat.le_trans (Nat.mod_le _ _) hX, Lib.hid ?_, HBK.out.drewN _, Below.drewN HBR.out _⟩, ?_⟩
    · rw [Nat.gcd_comm, ← Nat.gcd_rec, Nat.gcd_comm]
      exact HG.out
    · have h1 := Nat.mod_lt X hY0
      simp only [intOf]
      omega
end Go.Proofs.YthlfhfkfjefidaaGreat
/- The reference's Common. -/
namespace Go.Proofs.YthlfhfkfjefidaaGreat
open Go.RowKit
def limbsAt (w : World) (A : Option Addr) (k : Nat) : Nat :=
 match A with
 | some a => match w.cell? ⟨a.block, a.off + k, none⟩ with
   | some (.int _ z) => z.toNat
   | _ => 0
 | none => 0
def blkNum (w : World) (g : Nat) : Nat :=
 match w.cell? ⟨g, 1, none⟩ with
 | some (.slice A n _) => val ((List.range n).map (limbsAt w A))
 | _ => 0
theorem limbs_lim {w : World} {B n c : Nat} {A : Option Addr} {l : List Nat} (h : Lim w B A n c l) : (List.range n).map (limbsAt w A) = l := by
 apply List.ext_getElem?
 intro k
 rw [List.getElem?_map]
 rcases Nat.lt_or_ge k n with hk | hk
 · obtain ⟨b, o, x, rfl, -, hx, -, hc⟩ := h.at_ hk
   rw [List.getElem?_range hk, hx]
   simp [limbsAt, hc]
 · rw [List.getElem?_eq_none (by simpa using hk), List.getElem?_eq_none (by rw [h.len]; exact hk)]
   rfl
theorem blkNum_of {w : World} {g t : Nat} {s : Bool} {A : Option Addr} {n c K : Nat} {z : Int} {nf : Bool} (hb : Bk w g t #[.bool s, .slice A n c]) (h : IntH w s A n c z K nf) : blkNum w g = z.natAbs := by
 obtain ⟨l, h1, rfl, -⟩ := h.lim
 have hc : w.cell? ⟨g, 1, none⟩ = some (.slice A n c) := hb.duo.2
 unfold blkNum
 rw [hc]
 dsimp only
 rw [limbs_lim (h1 w (Below.refl _ _)), sg_abs]
theorem IntH.wide {w0 : World} {s : Bool} {A : Option Addr} {n c : Nat} {z : Int} {K K' : Nat} {nf : Bool} (h : IntH w0 s A n c z K nf) (hk : K ≤ K') : IntH w0 s A n c z K' nf := ⟨h.lim, Nat.le_trans h.len hk⟩
section
variable {w w1 w2 : World} {s1 s2 : Bool} {A1 A2 : Option Addr} {n1 c1 n2 c2 : Nat} {x y : Int} {K1 K2 : Nat} {f1 f2 : Bool}
set_option maxRecDepth 100000 in
set_option maxHeartbeats 8000000 in
theorem rcommonH (h1 : IntH w1 s1 A1 n1 c1 x K1 f1) (h2 : IntH w2 s2 A2 n2 c2 y K2 f2) (b1 : Below w1.heap.size w1 w) (b2 : Below w2.heap.size w2 w) (k1 : K1 ≤ 90) (k2 : K2 ≤ 90) :
 Calls Tryz.prog 110 #[.agg #[.bool s1, .slice A1 n1 c1], .agg #[.bool s2, .slice A2 n2 c2]] w (MakesInt ((Nat.gcd x.natAbs y.natAbs : Nat) : Int) (K1 + K2) w) := by
 go_enter Tryz.func110, Tryz.ntmps110
 go_upto_region 1 with fail
 obtain ⟨W, hW⟩ : ∃ W, W = (((w.alloc (.cells #[.bool s1, .slice A1 n1 c1] 24)).alloc (.cells #[.bool s2, .slice A2 n2 c2] 24)).alloc (.cells #[.bool false, .slice none 0 0] 24)) := ⟨_, rfl⟩
 have hbW : Below w.heap.size w W := by rw [hW]; exact bl
 have kx : Bk W w.heap.size 24 #[.bool s1, .slice A1 n1 c1] := by rw [hW]; exact bk
 have ky : Bk W (w.heap.size + 1) 24 #[.bool s2, .slice A2 n2 c2] := by rw [hW]; exact bk
 have kz : Bk W (w.heap.size + 1 + 1) 24 #[.bool false, .slice none 0 0] := by rw [hW]; exact bk
 rw [← hW]
 clear hW
 have KP : Hid (∀ w', Below W.heap.size W w' → Bk w' w.heap.size 24 #[.bool s1, .slice A1 n1 c1] ∧ Bk w' (w.heap.size + 1) 24 #[.bool s2, .slice A2 n2 c2] ∧ Bk w' (w.heap.size + 1 + 1) 24 #[.bool false, .slice none 0 0] ∧ Below w.heap.size w w') := Lib.hid fun w' hb' => ⟨kx.below hb' kx.lt, ky.below hb' ky.lt, kz.below hb' kz.lt, below_to hbW hb' hbW.size⟩
 obtain ⟨a0, a1⟩ := kx.duo
 obtain ⟨a2, a3⟩ := ky.duo
 clear kx ky kz hbW
 refine region_goes (n := 6) (fun w' => w'.cell? ⟨w.heap.size, 0, none⟩ = some (.bool s1) ∧ w'.cell? ⟨w.heap.size, 1, none⟩ = some (.slice A1 n1 c1) ∧ w'.cell? ⟨w.heap.size + 1, 0, none⟩ = some (.bool s2) ∧ w'.cell? ⟨w.heap.size + 1, 1, none⟩ = some (.slice A2 n2 c2)) [4, 5] (by kernel_rfl) rfl ?_
 refine goes_takeE (i := 0) (E := [1, 3, 4, 5]) (v := .agg #[.bool s1, .slice A1 n1 c1]) rfl (by kernel_rfl) rfl (fun _ _ _ h => h) (by intro w' hw'; obtain ⟨y0, y1, y2, y3⟩ := hw'; go_simp) ⟨a0, a1, a2, a3⟩ ?_
 refine goes_takeE (i := 2) (E := [3, 4, 5]) (v := .agg #[.bool s2, .slice A2 n2 c2]) rfl (by kernel_rfl) rfl (fun _ _ _ h => h) (by intro w' hw'; obtain ⟨y0, y1, y2, y3⟩ := hw'; go_simp) ⟨a0, a1, a2, a3⟩ ?_
 refine goes_call (i := 1) rfl (by kernel_rfl) ?_
 go_wp2_with (go_at_call 70; go_loud (with_reducible refine (rsizeH h1 ?_ (by omega)).mono ?_; (focus (exact below_to b1 (KP.out _ (Below.drew (Below.refl _ _))).2.2.2 b1.size)); rintro e wa ⟨hba, sx, Ax, nx, cx, rfl, ix⟩; have hBa := below_drw hba; obtain ⟨p1, p2, -⟩ := KP.out wa hBa; obtain ⟨u0, u1⟩ := p1.duo; obtain ⟨u2, u3⟩ := p2.duo; have HBA := Lib.hid hBa; have HIX := Lib.hid ix; clear hba hBa ix p1 p2))
 refine behind_ok ⟨⟨u0, u1, u2, u3⟩, ?_⟩
 refine goes_call (i := 3) rfl (by kernel_rfl) ?_
 go_wp2_with (go_at_call 70; go_loud (with_reducible refine (rsizeH h2 ?_ (by omega)).mono ?_; (focus (exact below_to b2 (KP.out _ HBA.out).2.2.2 b2.size)); rintro e wb ⟨hbb, sy, Ay, ny, cy, rfl, iy⟩; have hBb := below_to HBA.out hbb HBA.out.size; have hk := KP.out wb hBb; obtain ⟨v0, v1⟩ := hk.1.duo; obtain ⟨v2, v3⟩ := hk.2.1.duo; have g0 := hk.1.frozen 0; have g1 := hk.1.frozen 1; have HIY := Lib.hid iy; have HIX2 := Lib.hid (HIX.out.later hbb); have HK := Lib.hid hk; clear hbb hBb iy hk))
 refine behind_ok ⟨⟨v0, v1, v2, v3⟩, ?_⟩
 refine goes_last (i := 4) rfl (by kernel_rfl) (by kernel_rfl) ?_
 clear a0 a1 a2 a3 u0 u1 u2 u3
 go_wp2_with fail
 obtain ⟨d1, d2, d3, d4⟩ := HK.out
 have e1 := d1.duoset (.bool sx) (.slice Ax nx cx)
 have e2 := d2.two (g := w.heap.size) (by omega) (.bool sx) (.slice Ax nx cx)
 have e3 := d3.two (g := w.heap.size) (by omega) (.bool sx) (.slice Ax nx cx)
 have e4 : Below w.heap.size w ((wb.setCell ⟨w.heap.size, 0, none⟩ (.bool sx)).setCell ⟨w.heap.size, 1, none⟩ (.slice Ax nx cx)) := (d4.setCell (Nat.le_refl _) _).setCell (Nat.le_refl _) _
 have eX := HIX2.out.past d1 (.bool sx) (.slice Ax nx cx)
 have eY := HIY.out.past d1 (.bool sx) (.slice Ax nx cx)
 clear d1 d2 d3 d4 v0 v1 v2 v3 g0 g1
 generalize ((wb.setCell ⟨w.heap.size, 0, none⟩ (.bool sx)).setCell ⟨w.heap.size, 1, none⟩ (.slice Ax nx cx)) = V at e1 e2 e3 e4 eX eY ⊢
 refine behind_ok ?_
 refine goes_last (i := 5) rfl (by kernel_rfl) (by kernel_rfl) ?_
 obtain ⟨t0, t1⟩ := e2.duo
 have g0 := e2.frozen 0
 have g1 := e2.frozen 1
 have HE := Lib.hid (And.intro e1 (And.intro e2 (And.intro e3 (And.intro e4 (And.intro eX eY)))))
 clear e1 e2 e3 e4 eX eY
 go_wp2_with fail
 obtain ⟨d1, d2, d3, d4, dX, dY⟩ := HE.out
 have e1 := d1.two (g := w.heap.size + 1) (by omega) (.bool sy) (.slice Ay ny cy)
 have e2 := d2.duoset (.bool sy) (.slice Ay ny cy)
 have e3 := d3.two (g := w.heap.size + 1) (by omega) (.bool sy) (.slice Ay ny cy)
 have e4 : Below w.heap.size w ((V.setCell ⟨w.heap.size + 1, 0, none⟩ (.bool sy)).setCell ⟨w.heap.size + 1, 1, none⟩ (.slice Ay ny cy)) := (d4.setCell (by simp) _).setCell (by simp) _
 have eX := dX.past d2 (.bool sy) (.slice Ay ny cy)
 have eY := dY.past d2 (.bool sy) (.slice Ay ny cy)
 clear d1 d2 d3 d4 dX dY t0 t1 g0 g1
 generalize ((V.setCell ⟨w.heap.size + 1, 0, none⟩ (.bool sy)).setCell ⟨w.heap.size + 1, 1, none⟩ (.slice Ay ny cy)) = V2 at e1 e2 e3 e4 eX eY ⊢
 refine behind_ok (goes_done (by kernel_rfl) ?_)
 have HV := Lib.hid (And.intro e1 (And.intro e2 (And.intro e3 (And.intro e4 (And.intro (eX.wide (show K1 ≤ K1 + K2 by omega)) (eY.wide (show K2 ≤ K1 + K2 by omega)))))))
 clear e1 e2 e3 e4 eX eY
 go_wp2
 go_loopw [5, 6, 7] (fun _ _ _ wr => ∃ (X Y : Nat) (sx : Bool) (Ax : Option Addr) (nx cx : Nat) (sy : Bool) (Ay : Option Addr) (ny cy : Nat), Hid (Nat.gcd X Y = Nat.gcd x.natAbs y.natAbs) ∧ Bk wr w.heap.size 24 #[.bool sx, .slice Ax nx cx] ∧ Bk wr (w.heap.size + 1) 24 #[.bool sy, .slice Ay ny cy] ∧ Bk wr (w.heap.size + 1 + 1) 24 #[.bool false, .slice none 0 0] ∧ Below w.heap.size w wr ∧ IntH wr sx Ax nx cx (X : Int) (K1 + K2) true ∧ IntH wr sy Ay ny cy (Y : Int) (K1 + K2) true) (fun _ _ _ wr => blkNum wr (w.heap.size + 1))
 case atStart =>
  obtain ⟨e1, e2, e3, e4, eX, eY⟩ := HV.out
  exact ⟨x.natAbs, y.natAbs, sx, Ax, nx, cx, sy, Ay, ny, cy, Lib.hid rfl, e1, e2, e3, e4, eX, eY⟩
 case round =>
  obtain ⟨X, Y, sx, Ax, nx, cx, sy, Ay, ny, cy, HG, e1, e2, e3, e4, eX, eY⟩ := hrel
  obtain ⟨wo, hwo⟩ : ∃ z, z = wr := ⟨_, rfl⟩
  subst hwo
  obtain ⟨m0, m1⟩ := e2.duo
  have lt3 := e3.lt
  have ow := e4.size
  have HE1 := Lib.hid e1
  have HE2 := Lib.hid e2
  have HE3 := Lib.hid e3
  have HE4 := Lib.hid e4
  have HEX := Lib.hid eX
  have HEY := Lib.hid eY
  clear e1 e2 e3 e4 eX eY
  rcases Nat.eq_zero_or_pos Y with hY | hY
  · have hC : cmpI (Y : Int) 0 = 0 := cmpI_eq (by omega)
    have hg := HG.out
    rw [hY, Nat.gcd_zero_right] at hg
    have HGX := Lib.hid hg
    clear hg
    go_wp2_with (go_at_call 69; go_loud (with_reducible refine (rsignH HEY.out (Below.refl _ _) hC).mono ?_; rintro e wu ⟨hbu, rfl⟩; obtain ⟨z0, z1⟩ := (HE1.out.below hbu HE1.out.lt).duo; have k3 := HE3.out.below hbu HE3.out.lt; obtain ⟨r0, r1⟩ := k3.duo; have fr0 := k3.frozen 0; have fr1 := k3.frozen 1; have HBU := Lib.hid hbu; have HK3 := Lib.hid k3; clear hbu k3))
    refine bodyPost_ret (v := .agg #[.bool sx, .slice Ax nx cx]) (by simp [results, Tryz.results110, go_sem, r0, r1]) rfl ?_
    have hX := (HEX.out.later HBU.out).past HK3.out (.bool sx) (.slice Ax nx cx)
    rw [HGX.out] at hX
    exact ⟨((below_to HE4.out HBU.out ow).setCell (by simp; omega) _).setCell (by simp; omega) _, sx, Ax, nx, cx, rfl, hX⟩
  · have hC : cmpI (Y : Int) 0 = 1 := cmpI_gt (by omega)
    go_upto_region 4 with (first
     | (go_at_call 69; go_loud (with_reducible refine (rsignH HEY.out (Below.refl _ _) hC).mono ?_; rintro e wu ⟨hbu, rfl⟩; obtain ⟨z0, z1⟩ := (HE1.out.below hbu HE1.out.lt).duo; obtain ⟨z2, z3⟩ := (HE2.out.below hbu HE2.out.lt).duo; have HBU := Lib.hid hbu; clear hbu))
     | (go_at_call 21; go_loud (with_reducible refine (rdivH HEX.out HEY.out HBU.out HBU.out (by omega) (by omega)).mono ?_; rintro e we ⟨hbe, ⟨hne, -⟩ | ⟨-, sq, Aq, nq, cq, sr, Ar, nr, cr, rfl, hq, hr⟩⟩; (focus (exfalso; omega)); have HBE := Lib.hid (below_to HBU.out hbe HBU.out.size); have HR := Lib.hid hr; clear hbe hq hr)))
    obtain ⟨g6, hg6⟩ : ∃ g, we.heap.size + 1 = g := ⟨_, rfl⟩
    obtain ⟨W4, hW4⟩ : ∃ W, W = ((we.alloc (.cells #[.bool sq, .slice Aq nq cq] 24)).alloc (.cells #[.bool sr, .slice Ar nr cr] 24)) := ⟨_, rfl⟩
    have hbE : Below we.heap.size we W4 := by rw [hW4]; exact ((Below.refl _ _).alloc (Nat.le_refl _) _).alloc (by simp) _
    have hb4 : Below wo.heap.size wo W4 := below_to HBE.out hbE HBE.out.size
    have k6 : Bk W4.drew g6 24 #[.bool sr, .slice Ar nr cr] := by rw [hW4, ← hg6]; exact alloc2_bk _ _ _ _
    have lo6 : w.heap.size + 1 + 1 < g6 := by have := HE3.out.lt; have := HBE.out.size; omega
    rw [hg6, ← hW4]
    clear hW4 hg6
    have k1' : Bk W4.drew w.heap.size 24 #[.bool sx, .slice Ax nx cx] := HE1.out.below hb4.drew HE1.out.lt
    have k2' : Bk W4.drew (w.heap.size + 1) 24 #[.bool sy, .slice Ay ny cy] := HE2.out.below hb4.drew HE2.out.lt
    have k3' : Bk W4.drew (w.heap.size + 1 + 1) 24 #[.bool false, .slice none 0 0] := HE3.out.below hb4.drew HE3.out.lt
    have k4' : Below w.heap.size w W4.drew := (below_to HE4.out hb4 ow).drew
    have kY : IntH W4.drew sy Ay ny cy (Y : Int) (K1 + K2) true := HEY.out.later hb4.drew
    have kR : IntH W4.drew sr Ar nr cr ((X % Y : Nat) : Int) (K1 + K2) true := HR.out.later hbE.drew
    refine region_goes (n := 4) (fun w' => w'.cell? ⟨w.heap.size + 1, 0, none⟩ = some (.bool sy) ∧ w'.cell? ⟨w.heap.size + 1, 1, none⟩ = some (.slice Ay ny cy) ∧ w'.cell? ⟨g6, 0, none⟩ = some (.bool sr) ∧ w'.cell? ⟨g6, 1, none⟩ = some (.slice Ar nr cr)) [3] (by kernel_rfl) rfl ?_
    clear m0 m1 hbE hb4
    generalize W4.drew = V at k1' k2' k3' k4' k6 kY kR ⊢
    obtain ⟨a0, a1⟩ := k2'.duo
    obtain ⟨a2, a3⟩ := k6.duo
    obtain ⟨a4, a5⟩ := k1'.duo
    have f0 := k1'.frozen 0
    have f1 := k1'.frozen 1
    have HV := Lib.hid (And.intro k1' (And.intro k2' (And.intro k3' (And.intro k4' (And.intro k6 (And.intro kY kR))))))
    clear k1' k2' k3' k4' k6 kY kR
    refine goes_take (i := 0) (v := .agg #[.bool sy, .slice Ay ny cy]) rfl (by kernel_rfl) rfl (fun _ _ _ h => h) (by intro w' hw'; obtain ⟨y0, y1, y2, y3⟩ := hw'; go_simp) ⟨a0, a1, a2, a3⟩ ?_
    refine goes_take (i := 1) (v := .agg #[.bool sr, .slice Ar nr cr]) rfl (by kernel_rfl) rfl (fun _ _ _ h => h) (by intro w' hw'; obtain ⟨y0, y1, y2, y3⟩ := hw'; go_simp) ⟨a0, a1, a2, a3⟩ ?_
    refine goes_call (i := 2) rfl (by kernel_rfl) ?_
    go_wp2_with fail
    obtain ⟨d1, d2, d3, d4, d6, dY, dR⟩ := HV.out
    have e1 := d1.duoset (.bool sy) (.slice Ay ny cy)
    have e2 := d2.two (g := w.heap.size) (by omega) (.bool sy) (.slice Ay ny cy)
    have e3 := d3.two (g := w.heap.size) (by omega) (.bool sy) (.slice Ay ny cy)
    have e6 := d6.two (g := w.heap.size) (by omega) (.bool sy) (.slice Ay ny cy)
    have e4 : Below w.heap.size w ((V.setCell ⟨w.heap.size, 0, none⟩ (.bool sy)).setCell ⟨w.heap.size, 1, none⟩ (.slice Ay ny cy)) := (d4.setCell (Nat.le_refl _) _).setCell (Nat.le_refl _) _
    have eY := dY.past d1 (.bool sy) (.slice Ay ny cy)
    have eR := dR.past d1 (.bool sy) (.slice Ay ny cy)
    clear d1 d2 d3 d4 d6 dY dR a0 a1 a2 a3 a4 a5 f0 f1
    generalize ((V.setCell ⟨w.heap.size, 0, none⟩ (.bool sy)).setCell ⟨w.heap.size, 1, none⟩ (.slice Ay ny cy)) = V2 at e1 e2 e3 e4 e6 eY eR ⊢
    refine behind_ok ⟨⟨e2.duo.1, e2.duo.2, e6.duo.1, e6.duo.2⟩, ?_⟩
    refine goes_last (i := 3) rfl (by kernel_rfl) (by kernel_rfl) ?_
    obtain ⟨a0, a1⟩ := e2.duo
    have f0 := e2.frozen 0
    have f1 := e2.frozen 1
    have HV2 := Lib.hid (And.intro e1 (And.intro e2 (And.intro e3 (And.intro e4 (And.intro eY eR)))))
    clear e1 e2 e3 e4 e6 eY eR
    go_wp2_with fail
    obtain ⟨d1, d2, d3, d4, dY, dR⟩ := HV2.out
    have e1 := d1.two (g := w.heap.size + 1) (by omega) (.bool sr) (.slice Ar nr cr)
    have e2 := d2.duoset (.bool sr) (.slice Ar nr cr)
    have e3 := d3.two (g := w.heap.size + 1) (by omega) (.bool sr) (.slice Ar nr cr)
    have e4 : Below w.heap.size w ((V2.setCell ⟨w.heap.size + 1, 0, none⟩ (.bool sr)).setCell ⟨w.heap.size + 1, 1, none⟩ (.slice Ar nr cr)) := (d4.setCell (by simp) _).setCell (by simp) _
    have eY := dY.past d2 (.bool sr) (.slice Ar nr cr)
    have eR := dR.past d2 (.bool sr) (.slice Ar nr cr)
    clear d1 d2 d3 d4 dY dR a0 a1 f0 f1
    generalize ((V2.setCell ⟨w.heap.size + 1, 0, none⟩ (.bool sr)).setCell ⟨w.heap.size + 1, 1, none⟩ (.slice Ar nr cr)) = V3 at e1 e2 e3 e4 eY eR ⊢
    refine behind_ok (goes_done (by kernel_rfl) ?_)
    have hm1 := blkNum_of e2 eR
    have hm2 := blkNum_of HE2.out HEY.out
    have hlt := Nat.mod_lt X hY
    have HM := Lib.hid (show blkNum V3 (w.heap.size + 1) < blkNum wo (w.heap.size + 1) by rw [hm1, hm2, Int.natAbs_natCast, Int.natAbs_natCast]; exact hlt)
    have HW := Lib.hid (And.intro e1 (And.intro e2 (And.intro e3 (And.intro e4 (And.intro eY eR)))))
    clear hm1 hm2 hlt e1 e2 e3 e4 eY eR
    go_wp2
    obtain ⟨e1, e2, e3, e4, eY, eR⟩ := HW.out
    refine ⟨⟨Y, X % Y, sy, Ay, ny, cy, sr, Ar, nr, cr, Lib.hid ?_, e1, e2, e3, e4, eY, eR⟩, HM.out⟩
    rw [Nat.gcd_comm, ← Nat.gcd_rec, Nat.gcd_comm]
    exact HG.out
end
end Go.Proofs.YthlfhfkfjefidaaGreat
/- The reference's Over. -/
namespace Go.Proofs.YthlfhfkfjefidaaGreat
open Go.RowKit
theorem RatH.wide {w0 : World} {s1 : Bool} {A1 : Option Addr} {n1 c1 : Nat} {s2 : Bool} {A2 : Option Addr} {n2 c2 : Nat} {x : Rat} {K K' : Nat} {nf : Bool} (h : RatH w0 s1 A1 n1 c1 s2 A2 n2 c2 x K nf) (hk : K ≤ K') : RatH w0 s1 A1 n1 c1 s2 A2 n2 c2 x K' nf := ⟨h.lim, Nat.le_trans h.len1 hk, Nat.le_trans h.len2 hk⟩
theorem RatH.later {w0 w : World} {s1 : Bool} {A1 : Option Addr} {n1 c1 : Nat} {s2 : Bool} {A2 : Option Addr} {n2 c2 : Nat} {x : Rat} {K : Nat} {nf : Bool} (h : RatH w0 s1 A1 n1 c1 s2 A2 n2 c2 x K nf) (hb : Below w0.heap.size w0 w) : RatH w s1 A1 n1 c1 s2 A2 n2 c2 x K nf := by
 obtain ⟨l1, l2, h1, h2, h3⟩ := h.lim
 exact ⟨⟨l1, l2, fun w' hb' => h1 w' (below_to hb hb' hb.size), fun w' hb' => h2 w' (below_to hb hb' hb.size), h3⟩, h.len1, h.len2⟩
theorem Bk.four_set {w : World} {g t : Nat} {a b c d : Value} (h : Bk w g t #[a, b, c, d]) (u1 u2 u3 u4 : Value) : Bk ((((w.setCell ⟨g, 0, none⟩ u1).setCell ⟨g, 1, none⟩ u2).setCell ⟨g, 2, none⟩ u3).setCell ⟨g, 3, none⟩ u4) g t #[u1, u2, u3, u4] := by
 have := (((h.set_ 0 u1).set_ 1 u2).set_ 2 u3).set_ 3 u4
 simpa using this
theorem sg_dvd (t : Bool) {g : Nat} {a : Int} (h : g ∣ a.natAbs) : sg t g ∣ a := by
 have h1 : (g : Int) ∣ a := Int.ofNat_dvd_left.2 h
 cases t
 · exact h1
 · rw [sg_true]; exact Int.neg_dvd.2 h1
theorem over_parts {a b : Int} (hb : b ≠ 0) {g : Int} (hg : g = sg (decide (b < 0)) (Nat.gcd a.natAbs b.natAbs)) : g ≠ 0 ∧ a / g = (Rat.divInt a b).num ∧ b / g = ((Rat.divInt a b).den : Int) := by
 subst hg
 have h := low_parts (a := a) hb
 have hp : 0 < Nat.gcd a.natAbs b.natAbs := Nat.gcd_pos_of_pos_right _ (by omega)
 refine ⟨by cases decide (b < 0) <;> simp [sg] <;> omega, ?_, ?_⟩
 · rw [h.1, Int.tdiv_eq_ediv_of_dvd (sg_dvd _ (Nat.gcd_dvd_left _ _))]
 · rw [h.2, Int.tdiv_eq_ediv_of_dvd (sg_dvd _ (Nat.gcd_dvd_right _ _))]
section
variable {w w1 w2 : World} {s1 s2 : Bool} {A1 A2 : Option Addr} {n1 c1 n2 c2 : Nat} {a b : Int} {K1 K2 : Nat} {f1 f2 : Bool}
set_option maxRecDepth 100000 in
set_option maxHeartbeats 8000000 in
theorem roverH (h1 : IntH w1 s1 A1 n1 c1 a K1 f1) (h2 : IntH w2 s2 A2 n2 c2 b K2 f2) (b1 : Below w1.heap.size w1 w) (b2 : Below w2.heap.size w2 w) (k1 : K1 ≤ 90) (k2 : K2 ≤ 90) (h0 : b ≠ 0) :
 Calls Tryz.prog 72 #[.agg #[.bool s1, .slice A1 n1 c1], .agg #[.bool s2, .slice A2 n2 c2]] w (MakesRat (Rat.divInt a b) (K1 + K2 + 2) w) := by
 obtain ⟨xa, ba, hA, hA1, -, hA3⟩ := shortV_two a
 obtain ⟨xb, bb, hB, hB1, -, hB3⟩ := shortV_two b
 have HA1 := Lib.hid hA1
 have HB1 := Lib.hid hB1
 clear hA1 hB1
 go_enter Tryz.func72, Tryz.ntmps72
 go_upto_region 1 with fail
 obtain ⟨W, hW⟩ : ∃ W, W = (((w.alloc (.cells #[.bool s1, .slice A1 n1 c1] 24)).alloc (.cells #[.bool s2, .slice A2 n2 c2] 24)).alloc (.cells #[.bool false, .slice none 0 0, .bool false, .slice none 0 0] 41)) := ⟨_, rfl⟩
 have hbW : Below w.heap.size w W := by rw [hW]; exact bl
 have kx : Bk W w.heap.size 24 #[.bool s1, .slice A1 n1 c1] := by rw [hW]; exact bk
 have ky : Bk W (w.heap.size + 1) 24 #[.bool s2, .slice A2 n2 c2] := by rw [hW]; exact bk
 have kz : Bk W (w.heap.size + 1 + 1) 41 #[.bool false, .slice none 0 0, .bool false, .slice none 0 0] := by rw [hW]; exact bk
 rw [← hW]
 clear hW
 have KP : Hid (∀ w', Below W.heap.size W w' → Bk w' w.heap.size 24 #[.bool s1, .slice A1 n1 c1] ∧ Bk w' (w.heap.size + 1) 24 #[.bool s2, .slice A2 n2 c2] ∧ Bk w' (w.heap.size + 1 + 1) 41 #[.bool false, .slice none 0 0, .bool false, .slice none 0 0] ∧ Below w.heap.size w w') := Lib.hid fun w' hb' => ⟨kx.below hb' kx.lt, ky.below hb' ky.lt, kz.below hb' kz.lt, below_to hbW hb' hbW.size⟩
 obtain ⟨a0, a1⟩ := kx.duo
 have HLT := Lib.hid kz.lt
 clear kx ky kz hbW
 cases ba
 case' false =>
  go_upto_region 5 with (first
  | (go_at_call 109; with_reducible refine (rshortH h1 (below_to b1 (KP.out _ (Below.refl _ _)).2.2.2 b1.size) hA).mono ?_; rintro e wa ⟨hba, rfl⟩; obtain ⟨u0, u1⟩ := (KP.out wa hba).2.1.duo; have HBA := Lib.hid hba; clear hba)
  | (go_at_call 109; go_loud (with_reducible refine (rshortH h2 (below_to b2 (KP.out _ HBA.out).2.2.2 b2.size) hB).mono ?_; rintro e wb ⟨hbb, rfl⟩; have hb2 := below_to HBA.out hbb HBA.out.size; have hk := KP.out wb hb2; obtain ⟨v0, v1⟩ := hk.1.duo; obtain ⟨v2, v3⟩ := hk.2.1.duo; obtain ⟨r0, r1, r2, r3⟩ := hk.2.2.1.four4; have fr0 := hk.2.2.1.frozen 0; have fr1 := hk.2.2.1.frozen 1; have fr2 := hk.2.2.1.frozen 2; have fr3 := hk.2.2.1.frozen 3; have HBB := Lib.hid hb2; have HK := Lib.hid hk; clear hbb hb2 hk)))
 case' true =>
  cases bb
  case' false =>
   go_upto_region 5 with (first
  | (go_at_call 109; with_reducible refine (rshortH h1 (below_to b1 (KP.out _ (Below.refl _ _)).2.2.2 b1.size) hA).mono ?_; rintro e wa ⟨hba, rfl⟩; obtain ⟨u0, u1⟩ := (KP.out wa hba).2.1.duo; have HBA := Lib.hid hba; clear hba)
  | (go_at_call 109; go_loud (with_reducible refine (rshortH h2 (below_to b2 (KP.out _ HBA.out).2.2.2 b2.size) hB).mono ?_; rintro e wb ⟨hbb, rfl⟩; have hb2 := below_to HBA.out hbb HBA.out.size; have hk := KP.out wb hb2; obtain ⟨v0, v1⟩ := hk.1.duo; obtain ⟨v2, v3⟩ := hk.2.1.duo; obtain ⟨r0, r1, r2, r3⟩ := hk.2.2.1.four4; have fr0 := hk.2.2.1.frozen 0; have fr1 := hk.2.2.1.frozen 1; have fr2 := hk.2.2.1.frozen 2; have fr3 := hk.2.2.1.frozen 3; have HBB := Lib.hid hb2; have HK := Lib.hid hk; clear hbb hb2 hk)))
  case' true =>
   go_wp2_with (first
  | (go_at_call 109; with_reducible refine (rshortH h1 (below_to b1 (KP.out _ (Below.refl _ _)).2.2.2 b1.size) hA).mono ?_; rintro e wa ⟨hba, rfl⟩; obtain ⟨u0, u1⟩ := (KP.out wa hba).2.1.duo; have HBA := Lib.hid hba; clear hba)
  | (go_at_call 109; go_loud (with_reducible refine (rshortH h2 (below_to b2 (KP.out _ HBA.out).2.2.2 b2.size) hB).mono ?_; rintro e wb ⟨hbb, rfl⟩; have hb2 := below_to HBA.out hbb HBA.out.size; have hk := KP.out wb hb2; obtain ⟨v0, v1⟩ := hk.1.duo; obtain ⟨v2, v3⟩ := hk.2.1.duo; obtain ⟨r0, r1, r2, r3⟩ := hk.2.2.1.four4; have fr0 := hk.2.2.1.frozen 0; have fr1 := hk.2.2.1.frozen 1; have fr2 := hk.2.2.1.frozen 2; have fr3 := hk.2.2.1.frozen 3; have HBB := Lib.hid hb2; have HK := Lib.hid hk; clear hbb hb2 hk))
      | (go_at_call 75; go_loud (with_reducible refine (lowest_any xa xb _ (by omega) (by omega) (by rw [(HB1.out (by trivial)).1]; exact h0)).mono ?_; rintro e wc ⟨hbc, t1, B1, m1, d1, t2, B2, m2, d2, rfl, hr⟩; have k3 := HK.out.2.2.1.below hbc HK.out.2.2.1.lt; obtain ⟨g0, g1, g2, g3⟩ := k3.four4; have q0 := k3.frozen 0; have q1 := k3.frozen 1; have q2 := k3.frozen 2; have q3 := k3.frozen 3; have HBC := Lib.hid hbc; have HK3 := Lib.hid k3; have HRR := Lib.hid hr; clear hbc k3 hr)))
   refine bodyPost_ret (v := .agg #[.bool t1, .slice B1 m1 d1, .bool t2, .slice B2 m2 d2]) (by simp [results, Tryz.results72, go_sem, g0, g1, g2, g3]) rfl ?_
   have hR := (HRR.out.wide (show 2 ≤ K1 + K2 + 2 by omega)).stored HK3.out (set_four (o1 := 0) (o2 := 1) (o3 := 2) (o4 := 3) (.bool t1) (.slice B1 m1 d1) (.bool t2) (.slice B2 m2 d2)) (by simp [World.setCell])
   rw [(HA1.out (by trivial)).1, (HB1.out (by trivial)).1] at hR
   have hB : Below w.heap.size w wc := below_to HK.out.2.2.2 HBC.out HK.out.2.2.2.size
   exact ⟨(((hB.setCell (by first | (simp; done) | (simp; omega) | omega) _).setCell (by first | (simp; done) | (simp; omega) | omega) _).setCell (by first | (simp; done) | (simp; omega) | omega) _).setCell (by first | (simp; done) | (simp; omega) | omega) _, t1, B1, m1, d1, t2, B2, m2, d2, rfl, hR⟩
 all_goals
  (
   go_upto_region 6 with (go_at_call 110; go_loud (with_reducible refine (rcommonH h1 h2 (below_to b1 HK.out.2.2.2 b1.size) (below_to b2 HK.out.2.2.2 b2.size) (by omega) (by omega)).mono ?_; rintro e wg ⟨hbg, sG, AG, nG, cG, rfl, ig⟩; have hb2 := below_to HBB.out hbg HBB.out.size; have HBG := Lib.hid hb2; have HIG := Lib.hid ig; clear hbg hb2 ig))
   obtain ⟨g9, hg9⟩ : ∃ g, wg.heap.size = g := ⟨_, rfl⟩
   obtain ⟨W6, hW6⟩ : ∃ W, W = wg.alloc (.cells #[.bool sG, .slice AG nG cG] 24) := ⟨_, rfl⟩
   have hb6 : Below W.heap.size W W6 := by rw [hW6]; exact HBG.out.alloc HBG.out.size _
   have k9 : Bk W6 g9 24 #[.bool sG, .slice AG nG cG] := by rw [hW6]; exact Bk.at_ hg9
   have ig6 : IntH W6 sG AG nG cG ((Nat.gcd a.natAbs b.natAbs : Nat) : Int) (K1 + K2) true := by rw [hW6]; exact HIG.out.later ((Below.refl _ _).alloc (Nat.le_refl _) _)
   have lo9 : w.heap.size + 1 + 1 < g9 := by
    have h1 := HLT.out
    have h2 := HBG.out.size
    omega
   rw [hg9, ← hW6]
   clear hW6 hg9
   have K6 : Hid (∀ w', Below W6.heap.size W6 w' → Bk w' w.heap.size 24 #[.bool s1, .slice A1 n1 c1] ∧ Bk w' (w.heap.size + 1) 24 #[.bool s2, .slice A2 n2 c2] ∧ Bk w' (w.heap.size + 1 + 1) 41 #[.bool false, .slice none 0 0, .bool false, .slice none 0 0] ∧ Bk w' g9 24 #[.bool sG, .slice AG nG cG] ∧ Below w.heap.size w w') := Lib.hid fun w' hb' => by
    obtain ⟨p1, p2, p3, p4⟩ := KP.out w' (below_to hb6 hb' hb6.size)
    exact ⟨p1, p2, p3, k9.below hb' k9.lt, p4⟩
   have HG6 := Lib.hid ig6
   obtain ⟨zc2, zc3⟩ := (K6.out W6 (Below.refl _ _)).2.1.duo
   clear hb6 k9 ig6 v0 v1 v2 v3 r0 r1 r2 r3 fr0 fr1 fr2 fr3 u0 u1 a0 a1
   rcases Int.lt_or_le b 0 with hb0 | hb0
   · have hC : cmpI b 0 = -1 := cmpI_lt hb0
     go_upto_region 8 with (first
      | (go_at_call 69; go_loud (with_reducible refine (rsignH h2 (below_to b2 (K6.out _ (Below.refl _ _)).2.2.2.2 b2.size) hC).mono ?_; rintro e ws ⟨hbs, rfl⟩; obtain ⟨zc4, zc5⟩ := (K6.out ws hbs).2.2.2.1.duo; have HBS := Lib.hid hbs; clear hbs))
      | (go_at_call 65; go_loud (with_reducible refine (rminusH HG6.out HBS.out (by omega)).mono ?_; rintro e wm ⟨hbm, sM, AM, nM, cM, rfl, im⟩; have hm2 := below_to HBS.out hbm HBS.out.size; have hk := K6.out wm hm2; obtain ⟨d0, d1⟩ := hk.2.2.2.1.duo; have f0 := hk.2.2.2.1.frozen 0; have f1' := hk.2.2.2.1.frozen 1; have HKM := Lib.hid hk; have HIM := Lib.hid im; clear hbm hm2 hk im)))
     obtain ⟨p1, p2, p3, p4, p5⟩ := HKM.out
     have e1 := p1.two (g := g9) (by omega) (.bool sM) (.slice AM nM cM)
     have e2 := p2.two (g := g9) (by omega) (.bool sM) (.slice AM nM cM)
     have e3 := p3.two (g := g9) (by omega) (.bool sM) (.slice AM nM cM)
     have e4 := p4.duoset (.bool sM) (.slice AM nM cM)
     have e5 : Below w.heap.size w ((wm.setCell ⟨g9, 0, none⟩ (.bool sM)).setCell ⟨g9, 1, none⟩ (.slice AM nM cM)) := (p5.setCell (by simp; omega) _).setCell (by simp; omega) _
     have eG := HIM.out.past p4 (.bool sM) (.slice AM nM cM)
     clear p1 p2 p3 p4 p5 d0 d1 f0 f1' zc4 zc5 zc2 zc3
     generalize ((wm.setCell ⟨g9, 0, none⟩ (.bool sM)).setCell ⟨g9, 1, none⟩ (.slice AM nM cM)) = W8 at e1 e2 e3 e4 e5 eG ⊢
     have K8 : Hid (∀ w', Below W8.heap.size W8 w' → Bk w' w.heap.size 24 #[.bool s1, .slice A1 n1 c1] ∧ Bk w' (w.heap.size + 1) 24 #[.bool s2, .slice A2 n2 c2] ∧ Bk w' (w.heap.size + 1 + 1) 41 #[.bool false, .slice none 0 0, .bool false, .slice none 0 0] ∧ Bk w' g9 24 #[.bool sM, .slice AM nM cM] ∧ Below w.heap.size w w') := Lib.hid fun w' hb' => ⟨e1.below hb' e1.lt, e2.below hb' e2.lt, e3.below hb' e3.lt, e4.below hb' e4.lt, below_to e5 hb' e5.size⟩
     have HG8 := Lib.hid eG
     clear e1 e2 e3 e4 e5 eG
     (
      have HOP := Lib.hid (over_parts (a := a) h0 (by rw [decide_eq_true hb0, sg_true]))
      have hgne : (-((Nat.gcd a.natAbs b.natAbs : Nat) : Int)) ≠ 0 := HOP.out.1
      obtain ⟨p1, p2, p3, p4, p5⟩ := K8.out W8 (Below.refl _ _)
      obtain ⟨zc0, zc1⟩ := p1.duo
      obtain ⟨zc4, zc5⟩ := p4.duo
      clear p1 p2 p3 p4 p5
      go_upto_region 10 with (first
       | (go_at_call 21; with_reducible refine (rdivH h1 HG8.out (below_to b1 (K8.out _ (Below.refl _ _)).2.2.2.2 b1.size) (Below.refl _ _) (by omega) (by omega)).mono ?_; rintro e we ⟨hbe, ⟨hne, -⟩ | ⟨-, sp, Ap, np, cp, sp', Ap', np', cp', rfl, hp, hp'⟩⟩; (focus (exact absurd hne hgne)); obtain ⟨p1, p2, p3, p4, p5⟩ := K8.out we hbe; obtain ⟨zc2, zc3⟩ := p2.duo; obtain ⟨zc6, zc7⟩ := p4.duo; have l2 := p2.lt; have l4 := p4.lt; have l2b := Nat.lt_succ_of_lt l2; have l4b := Nat.lt_succ_of_lt l4; have HBE := Lib.hid hbe; have HPP := Lib.hid hp; clear hp hp' p1 p2 p3 p4 p5 hbe)
       | (go_at_call 21; go_loud (with_reducible refine (rdivH h2 HG8.out (below_to b2 (K8.out _ ((HBE.out.alloc HBE.out.size _).alloc (by simp; have := HBE.out.size; omega) _)).2.2.2.2 b2.size) ((HBE.out.alloc HBE.out.size _).alloc (by simp; have := HBE.out.size; omega) _) (by omega) (by omega)).mono ?_; rintro e wf ⟨hbf, ⟨hne, -⟩ | ⟨-, sq, Aq, nq, cq, sq', Aq', nq', cq', rfl, hq, hq'⟩⟩; (focus (exact absurd hne hgne)); have hb8 : Below W8.heap.size W8 wf := below_to ((HBE.out.alloc HBE.out.size _).alloc (by simp; have := HBE.out.size; omega) _) hbf (by simp; have := HBE.out.size; omega); have kp : Bk wf we.heap.size 24 #[.bool sp, .slice Ap np cp] := ((Bk.alloc_ _ _ _).alloc _).below hbf (by simp; omega); have hp2 := HPP.out.later (below_to (((Below.refl _ _).alloc (Nat.le_refl _) _).alloc (by simp) _) hbf (by simp; omega)); obtain ⟨p1, p2, p3, p4, p5⟩ := K8.out wf hb8; obtain ⟨zc8, zc9⟩ := kp.duo; have lp := kp.lt; have l3 := p3.lt; have lpb := Nat.lt_succ_of_lt lp; have l3b := Nat.lt_succ_of_lt l3; obtain ⟨g0, g1, g2, g3⟩ := p3.four4; have q0 := p3.frozen 0; have q1 := p3.frozen 1; have q2 := p3.frozen 2; have q3 := p3.frozen 3; have HP3 := Lib.hid p3; have HP5 := Lib.hid p5; have HPQ := Lib.hid hp2; have HQQ := Lib.hid hq; clear hq hq' p1 p2 p3 p4 p5 hbf kp hp2 hb8)))
      obtain ⟨g10, hg10⟩ : ∃ g, we.heap.size = g := ⟨_, rfl⟩
      rw [hg10] at zc8 zc9 lp lpb ⊢
      clear hg10
      go_wp2
      have iA : IntH wf sp Ap np cp (Rat.divInt a b).num (K1 + K2 + 2) true := by rw [← HOP.out.2.1]; exact HPQ.out.wide (by omega)
      have iB : IntH wf sq Aq nq cq ((Rat.divInt a b).den : Int) (K1 + K2 + 2) true := by rw [← HOP.out.2.2]; exact HQQ.out.wide (by omega)
      have hR := (RatH.of_ints iA iB).stored HP3.out (set_four (o1 := 0) (o2 := 1) (o3 := 2) (o4 := 3) (.bool sp) (.slice Ap np cp) (.bool sq) (.slice Aq nq cq)) (by simp [World.setCell])
      have hB := (((HP5.out.setCell (p := ⟨w.heap.size + 1 + 1, 0, none⟩) (by first | (simp; done) | (simp; omega) | omega) (.bool sp)).setCell (p := ⟨w.heap.size + 1 + 1, 1, none⟩) (by first | (simp; done) | (simp; omega) | omega) (.slice Ap np cp)).setCell (p := ⟨w.heap.size + 1 + 1, 2, none⟩) (by first | (simp; done) | (simp; omega) | omega) (.bool sq)).setCell (p := ⟨w.heap.size + 1 + 1, 3, none⟩) (by first | (simp; done) | (simp; omega) | omega) (.slice Aq nq cq)
      have hK := HP3.out.four_set (.bool sp) (.slice Ap np cp) (.bool sq) (.slice Aq nq cq)
      generalize ((((wf.setCell ⟨w.heap.size + 1 + 1, 0, none⟩ (.bool sp)).setCell ⟨w.heap.size + 1 + 1, 1, none⟩ (.slice Ap np cp)).setCell ⟨w.heap.size + 1 + 1, 2, none⟩ (.bool sq)).setCell ⟨w.heap.size + 1 + 1, 3, none⟩ (.slice Aq nq cq)) = V at hR hB hK ⊢
      have hV : Below V.heap.size V ((V.alloc (.cells #[.bool sq, .slice Aq nq cq] 24)).alloc (.cells #[.bool sq', .slice Aq' nq' cq'] 24)) := ((Below.refl _ _).alloc (Nat.le_refl _) _).alloc (by simp) _
      obtain ⟨y0, y1, y2, y3⟩ := (hK.below hV hK.lt).four4
      refine bodyPost_ret (v := .agg #[.bool sp, .slice Ap np cp, .bool sq, .slice Aq nq cq]) (by simp [results, Tryz.results72, go_sem, y0, y1, y2, y3]) rfl ?_
      exact ⟨below_to hB hV hB.size, sp, Ap, np, cp, sq, Aq, nq, cq, rfl, hR.later hV⟩)
   · have hC : cmpI b 0 = 1 := cmpI_gt (by omega)
     go_upto_region 8 with (go_at_call 69; go_loud (with_reducible refine (rsignH h2 (below_to b2 (K6.out _ (Below.refl _ _)).2.2.2.2 b2.size) hC).mono ?_; rintro e W8 ⟨hbs, rfl⟩; have HBS := Lib.hid hbs; clear hbs))
     have K8 : Hid (∀ w', Below W8.heap.size W8 w' → Bk w' w.heap.size 24 #[.bool s1, .slice A1 n1 c1] ∧ Bk w' (w.heap.size + 1) 24 #[.bool s2, .slice A2 n2 c2] ∧ Bk w' (w.heap.size + 1 + 1) 41 #[.bool false, .slice none 0 0, .bool false, .slice none 0 0] ∧ Bk w' g9 24 #[.bool sG, .slice AG nG cG] ∧ Below w.heap.size w w') := Lib.hid fun w' hb' => K6.out w' (below_to HBS.out hb' HBS.out.size)
     have HG8 := Lib.hid (HG6.out.later HBS.out)
     clear zc2 zc3
     (
      have HOP := Lib.hid (over_parts (a := a) h0 (by rw [decide_eq_false (by omega), sg_false]))
      have hgne : ((Nat.gcd a.natAbs b.natAbs : Nat) : Int) ≠ 0 := HOP.out.1
      obtain ⟨p1, p2, p3, p4, p5⟩ := K8.out W8 (Below.refl _ _)
      obtain ⟨zc0, zc1⟩ := p1.duo
      obtain ⟨zc4, zc5⟩ := p4.duo
      clear p1 p2 p3 p4 p5
      go_upto_region 10 with (first
       | (go_at_call 21; with_reducible refine (rdivH h1 HG8.out (below_to b1 (K8.out _ (Below.refl _ _)).2.2.2.2 b1.size) (Below.refl _ _) (by omega) (by omega)).mono ?_; rintro e we ⟨hbe, ⟨hne, -⟩ | ⟨-, sp, Ap, np, cp, sp', Ap', np', cp', rfl, hp, hp'⟩⟩; (focus (exact absurd hne hgne)); obtain ⟨p1, p2, p3, p4, p5⟩ := K8.out we hbe; obtain ⟨zc2, zc3⟩ := p2.duo; obtain ⟨zc6, zc7⟩ := p4.duo; have l2 := p2.lt; have l4 := p4.lt; have l2b := Nat.lt_succ_of_lt l2; have l4b := Nat.lt_succ_of_lt l4; have HBE := Lib.hid hbe; have HPP := Lib.hid hp; clear hp hp' p1 p2 p3 p4 p5 hbe)
       | (go_at_call 21; go_loud (with_reducible refine (rdivH h2 HG8.out (below_to b2 (K8.out _ ((HBE.out.alloc HBE.out.size _).alloc (by simp; have := HBE.out.size; omega) _)).2.2.2.2 b2.size) ((HBE.out.alloc HBE.out.size _).alloc (by simp; have := HBE.out.size; omega) _) (by omega) (by omega)).mono ?_; rintro e wf ⟨hbf, ⟨hne, -⟩ | ⟨-, sq, Aq, nq, cq, sq', Aq', nq', cq', rfl, hq, hq'⟩⟩; (focus (exact absurd hne hgne)); have hb8 : Below W8.heap.size W8 wf := below_to ((HBE.out.alloc HBE.out.size _).alloc (by simp; have := HBE.out.size; omega) _) hbf (by simp; have := HBE.out.size; omega); have kp : Bk wf we.heap.size 24 #[.bool sp, .slice Ap np cp] := ((Bk.alloc_ _ _ _).alloc _).below hbf (by simp; omega); have hp2 := HPP.out.later (below_to (((Below.refl _ _).alloc (Nat.le_refl _) _).alloc (by simp) _) hbf (by simp; omega)); obtain ⟨p1, p2, p3, p4, p5⟩ := K8.out wf hb8; obtain ⟨zc8, zc9⟩ := kp.duo; have lp := kp.lt; have l3 := p3.lt; have lpb := Nat.lt_succ_of_lt lp; have l3b := Nat.lt_succ_of_lt l3; obtain ⟨g0, g1, g2, g3⟩ := p3.four4; have q0 := p3.frozen 0; have q1 := p3.frozen 1; have q2 := p3.frozen 2; have q3 := p3.frozen 3; have HP3 := Lib.hid p3; have HP5 := Lib.hid p5; have HPQ := Lib.hid hp2; have HQQ := Lib.hid hq; clear hq hq' p1 p2 p3 p4 p5 hbf kp hp2 hb8)))
      obtain ⟨g10, hg10⟩ : ∃ g, we.heap.size = g := ⟨_, rfl⟩
      rw [hg10] at zc8 zc9 lp lpb ⊢
      clear hg10
      go_wp2
      have iA : IntH wf sp Ap np cp (Rat.divInt a b).num (K1 + K2 + 2) true := by rw [← HOP.out.2.1]; exact HPQ.out.wide (by omega)
      have iB : IntH wf sq Aq nq cq ((Rat.divInt a b).den : Int) (K1 + K2 + 2) true := by rw [← HOP.out.2.2]; exact HQQ.out.wide (by omega)
      have hR := (RatH.of_ints iA iB).stored HP3.out (set_four (o1 := 0) (o2 := 1) (o3 := 2) (o4 := 3) (.bool sp) (.slice Ap np cp) (.bool sq) (.slice Aq nq cq)) (by simp [World.setCell])
      have hB := (((HP5.out.setCell (p := ⟨w.heap.size + 1 + 1, 0, none⟩) (by first | (simp; done) | (simp; omega) | omega) (.bool sp)).setCell (p := ⟨w.heap.size + 1 + 1, 1, none⟩) (by first | (simp; done) | (simp; omega) | omega) (.slice Ap np cp)).setCell (p := ⟨w.heap.size + 1 + 1, 2, none⟩) (by first | (simp; done) | (simp; omega) | omega) (.bool sq)).setCell (p := ⟨w.heap.size + 1 + 1, 3, none⟩) (by first | (simp; done) | (simp; omega) | omega) (.slice Aq nq cq)
      have hK := HP3.out.four_set (.bool sp) (.slice Ap np cp) (.bool sq) (.slice Aq nq cq)
      generalize ((((wf.setCell ⟨w.heap.size + 1 + 1, 0, none⟩ (.bool sp)).setCell ⟨w.heap.size + 1 + 1, 1, none⟩ (.slice Ap np cp)).setCell ⟨w.heap.size + 1 + 1, 2, none⟩ (.bool sq)).setCell ⟨w.heap.size + 1 + 1, 3, none⟩ (.slice Aq nq cq)) = V at hR hB hK ⊢
      have hV : Below V.heap.size V ((V.alloc (.cells #[.bool sq, .slice Aq nq cq] 24)).alloc (.cells #[.bool sq', .slice Aq' nq' cq'] 24)) := ((Below.refl _ _).alloc (Nat.le_refl _) _).alloc (by simp) _
      obtain ⟨y0, y1, y2, y3⟩ := (hK.below hV hK.lt).four4
      refine bodyPost_ret (v := .agg #[.bool sp, .slice Ap np cp, .bool sq, .slice Aq nq cq]) (by simp [results, Tryz.results72, go_sem, y0, y1, y2, y3]) rfl ?_
      exact ⟨below_to hB hV hB.size, sp, Ap, np, cp, sq, Aq, nq, cq, rfl, hR.later hV⟩))
end
end Go.Proofs.YthlfhfkfjefidaaGreat
/- The reference's Normal, Whole and Ratio. -/
namespace Go.Proofs.YthlfhfkfjefidaaGreat
open Go.RowKit
theorem RatH.raw {w0 : World} {s1 : Bool} {A1 : Option Addr} {n1 c1 : Nat} {s2 : Bool} {A2 : Option Addr} {n2 c2 : Nat} {x : Rat} {K : Nat} {nf : Bool} (h : RatH w0 s1 A1 n1 c1 s2 A2 n2 c2 x K nf) : ∃ p q, IntH w0 s1 A1 n1 c1 p K false ∧ IntH w0 s2 A2 n2 c2 q K false ∧ x = frac p q := by
 obtain ⟨l1, l2, g1, g2, hx, -⟩ := h.lim
 exact ⟨_, _, ⟨⟨l1, g1, rfl, fun h => by cases h⟩, h.len1⟩, ⟨⟨l2, g2, rfl, fun h => by cases h⟩, h.len2⟩, hx⟩
theorem stored_rat {w wf : World} {g : Nat} {t1 t2 : Bool} {B1 B2 : Option Addr} {m1 d1 m2 d2 K : Nat} {x : Rat} (hb : Below w.heap.size w wf) (hg : w.heap.size ≤ g) (hk : Bk wf g 41 #[.bool false, .slice none 0 0, .bool false, .slice none 0 0]) (hr : RatH wf t1 B1 m1 d1 t2 B2 m2 d2 x K true) :
 ∃ V, V = ((((wf.setCell ⟨g, 0, none⟩ (.bool t1)).setCell ⟨g, 1, none⟩ (.slice B1 m1 d1)).setCell ⟨g, 2, none⟩ (.bool t2)).setCell ⟨g, 3, none⟩ (.slice B2 m2 d2)) ∧ Below w.heap.size w V ∧ Bk V g 41 #[.bool t1, .slice B1 m1 d1, .bool t2, .slice B2 m2 d2] ∧ RatH V t1 B1 m1 d1 t2 B2 m2 d2 x K true :=
 ⟨_, rfl, (((hb.setCell hg _).setCell hg _).setCell hg _).setCell hg _, hk.four_set _ _ _ _, hr.stored hk (set_four (o1 := 0) (o2 := 1) (o3 := 2) (o4 := 3) _ _ _ _) (by simp [World.setCell])⟩
section
variable {w w1 : World} {s1 s2 : Bool} {A1 A2 : Option Addr} {n1 c1 n2 c2 : Nat} {x : Rat} {K : Nat} {nf : Bool}
set_option maxRecDepth 100000 in
set_option maxHeartbeats 8000000 in
theorem rnormalH (h : RatH w1 s1 A1 n1 c1 s2 A2 n2 c2 x K nf) (b1 : Below w1.heap.size w1 w) (hk : K ≤ 88) :
 Calls Tryz.prog 31 #[.agg #[.bool s1, .slice A1 n1 c1, .bool s2, .slice A2 n2 c2]] w (MakesRat x (K + K + 4) w) := by
 obtain ⟨p, q, i1, i2, rfl⟩ := h.raw
 clear h
 go_enter Tryz.func31, Tryz.ntmps31
 go_upto_region 1 with fail
 obtain ⟨W, hW⟩ : ∃ W, W = ((w.alloc (.cells #[.bool s1, .slice A1 n1 c1, .bool s2, .slice A2 n2 c2] 41)).alloc (.cells #[.bool false, .slice none 0 0, .bool false, .slice none 0 0] 41)) := ⟨_, rfl⟩
 have hbW : Below w.heap.size w W := by rw [hW]; exact bl
 have kx : Bk W w.heap.size 41 #[.bool s1, .slice A1 n1 c1, .bool s2, .slice A2 n2 c2] := by rw [hW]; exact bk
 have kz : Bk W (w.heap.size + 1) 41 #[.bool false, .slice none 0 0, .bool false, .slice none 0 0] := by rw [hW]; exact bk
 rw [← hW]
 clear hW
 have KP : Hid (∀ w', Below W.heap.size W w' → Bk w' w.heap.size 41 #[.bool s1, .slice A1 n1 c1, .bool s2, .slice A2 n2 c2] ∧ Bk w' (w.heap.size + 1) 41 #[.bool false, .slice none 0 0, .bool false, .slice none 0 0] ∧ Below w.heap.size w w') := Lib.hid fun w' hb' => ⟨kx.below hb' kx.lt, kz.below hb' kz.lt, below_to hbW hb' hbW.size⟩
 obtain ⟨a0, a1, a2, a3⟩ := kx.four4
 clear kx kz hbW
 by_cases hq : q = 0
 · have hC : cmpI q 0 = 0 := cmpI_eq hq
   have HF : Hid (frac p q = Rat.divInt p 1) := Lib.hid (by unfold frac; rw [if_pos hq])
   clear hq
   go_upto_region 2 with (go_at_call 69; go_loud (with_reducible refine (rsignH i2 (below_to b1 (KP.out _ (Below.refl _ _)).2.2 b1.size) hC).mono ?_; rintro e ws ⟨hbs, rfl⟩; obtain ⟨u0, u1, u2, u3⟩ := (KP.out ws hbs).1.four4; have HBS := Lib.hid hbs; clear hbs))
   refine region_goes (n := 5) (fun w' => w'.cell? ⟨w.heap.size, 0, none⟩ = some (.bool s1) ∧ w'.cell? ⟨w.heap.size, 1, none⟩ = some (.slice A1 n1 c1)) [4] (by kernel_rfl) rfl ?_
   refine goes_takeE (i := 0) (E := [1, 3, 4]) (v := .pointer (some ⟨w.heap.size, 0, none⟩)) rfl (by kernel_rfl) rfl (fun _ _ _ h => h) (by intro w' hw'; go_simp) ⟨u0, u1⟩ ?_
   refine goes_takeE (i := 1) (E := [3, 4]) (v := .agg #[.bool s1, .slice A1 n1 c1]) rfl (by kernel_rfl) rfl (fun _ _ _ h => h) (by intro w' hw'; obtain ⟨z0, z1⟩ := hw'; go_simp) ⟨u0, u1⟩ ?_
   refine goes_call (i := 2) rfl (by kernel_rfl) ?_
   go_wp2_with (go_at_call 13; go_loud (with_reducible refine (rofH 1 _ (by omega) (by omega)).mono ?_; rintro e wa ⟨hba, sa, Aa, na, ca, rfl, ia⟩; have hBa := below_to HBS.out (below_drw hba) HBS.out.size; obtain ⟨v0, v1, -, -⟩ := (KP.out wa hBa).1.four4; have HBA := Lib.hid hBa; have HIA := Lib.hid ia; clear hba hBa ia))
   refine behind_ok ⟨⟨v0, v1⟩, ?_⟩
   refine goes_call (i := 3) rfl (by kernel_rfl) ?_
   go_wp2_with (go_at_call 72; go_loud (with_reducible refine (roverH i1 HIA.out (below_to b1 (KP.out _ HBA.out).2.2 b1.size) (Below.refl _ _) (by omega) (by omega) (by omega)).mono ?_; rintro e wf ⟨hbf, t1, B1, m1, d1, t2, B2, m2, d2, rfl, hr⟩; have hBf := below_to HBA.out hbf HBA.out.size; have hk2 := KP.out wf hBf; obtain ⟨z0, z1, -, -⟩ := hk2.1.four4; obtain ⟨r0, r1, r2, r3⟩ := hk2.2.1.four4; have f0 := hk2.2.1.frozen 0; have f1 := hk2.2.1.frozen 1; have f2 := hk2.2.1.frozen 2; have f3 := hk2.2.1.frozen 3; have HK2 := Lib.hid hk2; have HR := Lib.hid hr; clear hbf hBf hk2 hr))
   refine behind_ok ⟨⟨z0, z1⟩, ?_⟩
   refine goes_last (i := 4) rfl (by kernel_rfl) (by kernel_rfl) ?_
   go_wp2_with fail
   obtain ⟨V, hV, hVb, hVk, hVr⟩ := stored_rat HK2.out.2.2 (Nat.le_succ _) HK2.out.2.1 (HR.out.wide (show K + 2 + 2 ≤ K + K + 4 by omega))
   rw [← hV]
   clear hV
   obtain ⟨y0, y1, y2, y3⟩ := hVk.four4
   rw [← HF.out] at hVr
   have HVB := Lib.hid hVb
   have HVR := Lib.hid hVr
   clear hVb hVk hVr
   refine behind_ok (goes_done (by kernel_rfl) ?_)
   go_wp2
   refine bodyPost_ret (v := .agg #[.bool t1, .slice B1 m1 d1, .bool t2, .slice B2 m2 d2]) (by simp [results, Tryz.results31, go_sem, y0, y1, y2, y3]) rfl ?_
   exact ⟨HVB.out, t1, B1, m1, d1, t2, B2, m2, d2, rfl, HVR.out⟩
 · obtain ⟨C, hC⟩ : ∃ C, cmpI q 0 = C := ⟨_, rfl⟩
   have hC0 : ¬ C = 0 := by
    rw [← hC]
    rcases Int.lt_trichotomy q 0 with h | h | h
    · rw [cmpI_lt h]; omega
    · exact absurd h hq
    · rw [cmpI_gt h]; omega
   have hCb : (C == 0) = false := by simpa using hC0
   have HF : Hid (frac p q = Rat.divInt p q) := Lib.hid (by unfold frac; rw [if_neg hq])
   go_wp2_with (first
    | (go_at_call 69; go_loud (with_reducible refine (rsignH i2 (below_to b1 (KP.out _ (Below.refl _ _)).2.2 b1.size) hC).mono ?_; rintro e ws ⟨hbs, rfl⟩; obtain ⟨u0, u1, u2, u3⟩ := (KP.out ws hbs).1.four4; have HBS := Lib.hid hbs; clear hbs))
    | (go_at_call 72; go_loud (with_reducible refine (roverH i1 i2 (below_to b1 (KP.out _ HBS.out).2.2 b1.size) (below_to b1 (KP.out _ HBS.out).2.2 b1.size) (by omega) (by omega) hq).mono ?_; rintro e wf ⟨hbf, t1, B1, m1, d1, t2, B2, m2, d2, rfl, hr⟩; have hBf := below_to HBS.out hbf HBS.out.size; have hk2 := KP.out wf hBf; obtain ⟨r0, r1, r2, r3⟩ := hk2.2.1.four4; have f0 := hk2.2.1.frozen 0; have f1 := hk2.2.1.frozen 1; have f2 := hk2.2.1.frozen 2; have f3 := hk2.2.1.frozen 3; have HK2 := Lib.hid hk2; have HR := Lib.hid hr; clear hbf hBf hk2 hr)))
   obtain ⟨V, hV, hVb, hVk, hVr⟩ := stored_rat HK2.out.2.2 (Nat.le_succ _) HK2.out.2.1 (HR.out.wide (show K + K + 2 ≤ K + K + 4 by omega))
   rw [← hV]
   clear hV
   obtain ⟨y0, y1, y2, y3⟩ := hVk.four4
   (rw [← HF.out] at hVr)
   have HVB := Lib.hid hVb
   have HVR := Lib.hid hVr
   clear hVb hVk hVr
   refine bodyPost_ret (v := .agg #[.bool t1, .slice B1 m1 d1, .bool t2, .slice B2 m2 d2]) (by simp [results, Tryz.results31, go_sem, y0, y1, y2, y3]) rfl ?_
   exact ⟨HVB.out, t1, B1, m1, d1, t2, B2, m2, d2, rfl, HVR.out⟩
theorem rwholeH (n : Int) (w : World) (h1 : -9223372036854775808 ≤ n) (h2 : n ≤ 9223372036854775807) :
 Calls Tryz.prog 29 #[.int .i64 n] w (MakesRat (Rat.divInt n 1) 6 w) := by
 go_enter Tryz.func29, Tryz.ntmps29
 go_wp2_with (first
  | (go_at_call 13; with_reducible refine (rofH 1 _ (by omega) (by omega)).mono ?_; rintro e wb ⟨hbb, sb, Ab, nb, cb, rfl, ib⟩; have HBB := Lib.hid (below_to HBA.out hbb HBA.out.size); have HIB := Lib.hid ib; have HIA2 := Lib.hid (HIA.out.later hbb); have HKB := Lib.hid (HKA.out.below hbb HKA.out.lt); clear hbb ib)
  | (go_at_call 13; go_loud (with_reducible refine (rofH n _ h1 h2).mono ?_; rintro e wa ⟨hba, sa, Aa, na, ca, rfl, ia⟩; have HBA : Hid (Below w.heap.size w wa) := Lib.hid bl; have HKA : Hid (Bk wa w.heap.size 41 #[.bool false, .slice none 0 0, .bool false, .slice none 0 0]) := Lib.hid bk; have HIA := Lib.hid ia; clear hba ia))
  | (go_at_call 72; go_loud (with_reducible refine (roverH HIA2.out HIB.out (Below.refl _ _) (Below.refl _ _) (by omega) (by omega) (by omega)).mono ?_; rintro e wf ⟨hbf, t1, B1, m1, d1, t2, B2, m2, d2, rfl, hr⟩; have hk2 := HKB.out.below hbf HKB.out.lt; obtain ⟨r0, r1, r2, r3⟩ := hk2.four4; have f0 := hk2.frozen 0; have f1 := hk2.frozen 1; have f2 := hk2.frozen 2; have f3 := hk2.frozen 3; have HK2 := Lib.hid (And.intro True.intro (And.intro hk2 (below_to HBB.out hbf HBB.out.size))); have HR := Lib.hid hr; clear hbf hk2 hr)))
 obtain ⟨V, hV, hVb, hVk, hVr⟩ := stored_rat HK2.out.2.2 (Nat.le_refl _) HK2.out.2.1 (HR.out.wide (show 2 + 2 + 2 ≤ 6 by omega))
 rw [← hV]
 clear hV
 obtain ⟨y0, y1, y2, y3⟩ := hVk.four4
 skip
 have HVB := Lib.hid hVb
 have HVR := Lib.hid hVr
 clear hVb hVk hVr
 refine bodyPost_ret (v := .agg #[.bool t1, .slice B1 m1 d1, .bool t2, .slice B2 m2 d2]) (by simp [results, Tryz.results29, go_sem, y0, y1, y2, y3]) rfl ?_
 exact ⟨HVB.out, t1, B1, m1, d1, t2, B2, m2, d2, rfl, HVR.out⟩
end
end Go.Proofs.YthlfhfkfjefidaaGreat
/- The reference's Normal with its bounds, SignOf and Neg. -/
namespace Go.Proofs.YthlfhfkfjefidaaGreat
open Go.RowKit
theorem MakesRat.tight {x : Rat} {K K' : Nat} {w w' : World} {e : Ending} (h : MakesRat x K w e w') (h1 : x.num.natAbs < W K') (h2 : x.den < W K') : MakesRat x K' w e w' := by
 obtain ⟨hb, s1, A1, n1, c1, s2, A2, n2, c2, rfl, hr⟩ := h
 obtain ⟨l1, l2, g1, g2, hx, hn⟩ := hr.lim
 obtain ⟨N1, -, N2, -, e1, e2⟩ := hn rfl
 have L1 := (g1 _ (Below.refl _ _)).len
 have L2 := (g2 _ (Below.refl _ _)).len
 have k1 : (sg s1 (val l1)).natAbs < W K' := by rw [← e1]; exact h1
 have k2 : (sg s2 (val l2)).natAbs < W K' := by rw [← e2]; simpa using h2
 rw [sg_abs] at k1 k2
 exact ⟨hb, s1, A1, n1, c1, s2, A2, n2, c2, rfl, ⟨⟨l1, l2, g1, g2, hx, hn⟩, by rw [← L1]; exact norm_len_le N1 k1, by rw [← L2]; exact norm_len_le N2 k2⟩⟩
theorem divInt_bd2 {p q : Int} (hq : q ≠ 0) : (Rat.divInt p q).num.natAbs ≤ p.natAbs ∧ (Rat.divInt p q).den ≤ q.natAbs := by
 rcases Int.lt_or_le q 0 with h | h
 · have := divInt_bd (p := -p) (q := -q) (by omega)
   rw [Rat.neg_divInt_neg] at this
   simpa using this
 · exact divInt_bd (by omega)
theorem frac_bd (p q : Int) : (frac p q).num.natAbs ≤ p.natAbs ∧ (frac p q).den ≤ (if q = 0 then 1 else q.natAbs) := by
 unfold frac
 by_cases h : q = 0
 · rw [if_pos h, if_pos h]
   exact divInt_bd2 (q := 1) (by omega)
 · rw [if_neg h, if_neg h]
   exact divInt_bd2 h
theorem cmp_sg0 (s : Bool) (a : Nat) : cmpI (sg s a) 0 = if a = 0 then 0 else if s = true then -1 else 1 := by
 by_cases h : a = 0
 · rw [if_pos h, h, cmpI_eq (by cases s <;> simp [sg])]
 · rw [if_neg h]
   cases s
   · rw [sg_false, cmpI_gt (by omega)]; rfl
   · rw [sg_true, cmpI_lt (by omega)]; rfl
theorem cmp_frac (p q : Int) : cmpI (frac p q).num 0 = if q < 0 then -(cmpI p 0) else cmpI p 0 := by
 have key : ∀ (s t : Bool) (a b : Nat), 0 < b → cmpI (Rat.divInt (sg s a) (sg t b)).num 0 = if t = true then -(cmpI (sg s a) 0) else cmpI (sg s a) 0 := by
  intro s t a b hb
  rw [rat_num s t a b hb, cmp_sg0, cmp_sg0]
  by_cases h : a = 0
  · subst h
    rw [Nat.zero_div]
    cases t <;> rfl
  · have h2 : a / Nat.gcd a b ≠ 0 := by
     have := Nat.div_pos (Nat.le_of_dvd (by omega) (Nat.gcd_dvd_left a b)) (Nat.gcd_pos_of_pos_right a hb)
     omega
    rw [if_neg h, if_neg h2]
    cases s <;> cases t <;> rfl
 by_cases h : q = 0
 · subst h
   have := key (decide (p < 0)) false p.natAbs 1 (by omega)
   rw [← sg_of] at this
   exact this
 · have := key (decide (p < 0)) (decide (q < 0)) p.natAbs q.natAbs (by omega)
   rw [← sg_of, ← sg_of] at this
   unfold frac
   rw [if_neg h, this]
   simp
section
variable {w w1 : World} {s1 s2 : Bool} {A1 A2 : Option Addr} {n1 c1 n2 c2 : Nat} {x : Rat} {K : Nat} {nf : Bool}
theorem RatH.bds (h : RatH w1 s1 A1 n1 c1 s2 A2 n2 c2 x K nf) (h0 : 0 < K) : x.num.natAbs < W K ∧ x.den < W K := by
 obtain ⟨p, q, i1, i2, rfl⟩ := h.raw
 have a1 := i1.abs
 have a2 := i2.abs
 obtain ⟨d1, d2⟩ := frac_bd p q
 refine ⟨by omega, ?_⟩
 have h1 : W 1 ≤ W K := W_mono h0
 have hw1 : W 1 = 4294967296 := by decide
 split at d2 <;> omega
theorem rnormT (h : RatH w1 s1 A1 n1 c1 s2 A2 n2 c2 x K nf) (b1 : Below w1.heap.size w1 w) (hk : K ≤ 88) (h0 : 0 < K) :
 Calls Tryz.prog 31 #[.agg #[.bool s1, .slice A1 n1 c1, .bool s2, .slice A2 n2 c2]] w (MakesRat x K w) :=
 (rnormalH h b1 hk).mono fun _ _ hh => hh.tight (h.bds h0).1 (h.bds h0).2
set_option maxRecDepth 100000 in
set_option maxHeartbeats 4000000 in
theorem rsignOfH (h : RatH w1 s1 A1 n1 c1 s2 A2 n2 c2 x K nf) (b1 : Below w1.heap.size w1 w) {C : Int} (hC : cmpI x.num 0 = C) :
 Calls Tryz.prog 77 #[.agg #[.bool s1, .slice A1 n1 c1, .bool s2, .slice A2 n2 c2]] w fun e w' => Below w.heap.size w w' ∧ e = .returned (.int .i64 C) := by
 obtain ⟨p, q, i1, i2, rfl⟩ := h.raw
 clear h
 rw [cmp_frac] at hC
 by_cases hq : q < 0
 · rw [if_pos hq] at hC
   have hQ : cmpI q 0 = -1 := cmpI_lt hq
   rcases Int.lt_trichotomy p 0 with hp | hp | hp
   · have hP : cmpI p 0 = -1 := cmpI_lt hp
     rw [hP] at hC
     subst hC
     clear hq hp
     (
      go_enter Tryz.func77, Tryz.ntmps77
      go_wp2_with (first
       | (go_at_call 69; with_reducible refine (rsignH i2 ?_ hQ).mono ?_; (focus (exact bl)); rintro e wa ⟨hba, rfl⟩; have k2 : Bk wa w.heap.size 41 #[.bool s1, .slice A1 n1 c1, .bool s2, .slice A2 n2 c2] := bk; obtain ⟨u0, u1, -, -⟩ := k2.four4; have HBA := Lib.hid hba; have ol := k2.lt; clear k2)
       | (go_at_call 69; go_loud (with_reducible refine (rsignH i1 ?_ hP).mono ?_; (focus (have hba := HBA.out; exact bl)); rintro e wb ⟨hbb, rfl⟩)))
      have hba := HBA.out
      refine bodyPost_ret (by simp [results, Tryz.results77, go_sem]; rfl) rfl ?_
      exact ⟨bl, rfl⟩)
   · have hP : cmpI p 0 = 0 := cmpI_eq hp
     rw [hP] at hC
     subst hC
     clear hq hp
     (
      go_enter Tryz.func77, Tryz.ntmps77
      go_wp2_with (first
       | (go_at_call 69; with_reducible refine (rsignH i2 ?_ hQ).mono ?_; (focus (exact bl)); rintro e wa ⟨hba, rfl⟩; have k2 : Bk wa w.heap.size 41 #[.bool s1, .slice A1 n1 c1, .bool s2, .slice A2 n2 c2] := bk; obtain ⟨u0, u1, -, -⟩ := k2.four4; have HBA := Lib.hid hba; have ol := k2.lt; clear k2)
       | (go_at_call 69; go_loud (with_reducible refine (rsignH i1 ?_ hP).mono ?_; (focus (have hba := HBA.out; exact bl)); rintro e wb ⟨hbb, rfl⟩)))
      have hba := HBA.out
      refine bodyPost_ret (by simp [results, Tryz.results77, go_sem]; rfl) rfl ?_
      exact ⟨bl, rfl⟩)
   · have hP : cmpI p 0 = 1 := cmpI_gt hp
     rw [hP] at hC
     subst hC
     clear hq hp
     (
      go_enter Tryz.func77, Tryz.ntmps77
      go_wp2_with (first
       | (go_at_call 69; with_reducible refine (rsignH i2 ?_ hQ).mono ?_; (focus (exact bl)); rintro e wa ⟨hba, rfl⟩; have k2 : Bk wa w.heap.size 41 #[.bool s1, .slice A1 n1 c1, .bool s2, .slice A2 n2 c2] := bk; obtain ⟨u0, u1, -, -⟩ := k2.four4; have HBA := Lib.hid hba; have ol := k2.lt; clear k2)
       | (go_at_call 69; go_loud (with_reducible refine (rsignH i1 ?_ hP).mono ?_; (focus (have hba := HBA.out; exact bl)); rintro e wb ⟨hbb, rfl⟩)))
      have hba := HBA.out
      refine bodyPost_ret (by simp [results, Tryz.results77, go_sem]; rfl) rfl ?_
      exact ⟨bl, rfl⟩)
 · rw [if_neg hq] at hC
   have hP := hC
   clear hC
   rcases (by omega : q = 0 ∨ 0 < q) with h0 | h0
   · have hQ : cmpI q 0 = 0 := cmpI_eq h0
     clear hq h0
     (
      go_enter Tryz.func77, Tryz.ntmps77
      go_wp2_with (first
       | (go_at_call 69; with_reducible refine (rsignH i2 ?_ hQ).mono ?_; (focus (exact bl)); rintro e wa ⟨hba, rfl⟩; have k2 : Bk wa w.heap.size 41 #[.bool s1, .slice A1 n1 c1, .bool s2, .slice A2 n2 c2] := bk; obtain ⟨u0, u1, -, -⟩ := k2.four4; have HBA := Lib.hid hba; have ol := k2.lt; clear k2)
       | (go_at_call 69; go_loud (with_reducible refine (rsignH i1 ?_ hP).mono ?_; (focus (have hba := HBA.out; exact bl)); rintro e wb ⟨hbb, rfl⟩)))
      have hba := HBA.out
      refine bodyPost_ret (by simp [results, Tryz.results77, go_sem]; rfl) rfl ?_
      exact ⟨bl, rfl⟩)
   · have hQ : cmpI q 0 = 1 := cmpI_gt h0
     clear hq h0
     (
      go_enter Tryz.func77, Tryz.ntmps77
      go_wp2_with (first
       | (go_at_call 69; with_reducible refine (rsignH i2 ?_ hQ).mono ?_; (focus (exact bl)); rintro e wa ⟨hba, rfl⟩; have k2 : Bk wa w.heap.size 41 #[.bool s1, .slice A1 n1 c1, .bool s2, .slice A2 n2 c2] := bk; obtain ⟨u0, u1, -, -⟩ := k2.four4; have HBA := Lib.hid hba; have ol := k2.lt; clear k2)
       | (go_at_call 69; go_loud (with_reducible refine (rsignH i1 ?_ hP).mono ?_; (focus (have hba := HBA.out; exact bl)); rintro e wb ⟨hbb, rfl⟩)))
      have hba := HBA.out
      refine bodyPost_ret (by simp [results, Tryz.results77, go_sem]; rfl) rfl ?_
      exact ⟨bl, rfl⟩)
end
end Go.Proofs.YthlfhfkfjefidaaGreat
/- What is left when a fraction has been stored. -/
namespace Go.Proofs.YthlfhfkfjefidaaGreat
open Go.RowKit
theorem stored_over {D : Nat} {w wf : World} {g : Nat} {a b : Bool} {A B : Option Addr} {n c m d : Nat} {t1 t2 : Bool} {B1 B2 : Option Addr} {m1 d1 m2 d2 K : Nat} {x : Rat} {nf : Bool} (hb : Below D w wf) (hg : D ≤ g) (hk : Bk wf g 41 #[.bool a, .slice A n c, .bool b, .slice B m d]) (hr : RatH wf t1 B1 m1 d1 t2 B2 m2 d2 x K nf) :
 ∃ V, V = ((((wf.setCell ⟨g, 0, none⟩ (.bool t1)).setCell ⟨g, 1, none⟩ (.slice B1 m1 d1)).setCell ⟨g, 2, none⟩ (.bool t2)).setCell ⟨g, 3, none⟩ (.slice B2 m2 d2)) ∧ Below D w V ∧ Bk V g 41 #[.bool t1, .slice B1 m1 d1, .bool t2, .slice B2 m2 d2] ∧ RatH V t1 B1 m1 d1 t2 B2 m2 d2 x K nf ∧ (∀ k t cs, k ≠ g → Bk wf k t cs → Bk V k t cs) ∧ V.heap.size = wf.heap.size :=
 ⟨_, rfl, (((hb.setCell hg _).setCell hg _).setCell hg _).setCell hg _, hk.four_set _ _ _ _, hr.stored hk (set_four (o1 := 0) (o2 := 1) (o3 := 2) (o4 := 3) _ _ _ _) (by simp [World.setCell]), fun k t cs h hh => (((hh.other (p := ⟨g, 0, none⟩) h _).other (p := ⟨g, 1, none⟩) h _).other (p := ⟨g, 2, none⟩) h _).other (p := ⟨g, 3, none⟩) h _, by simp [World.setCell]⟩
theorem RatH.parts2 {w0 : World} {s1 : Bool} {A1 : Option Addr} {n1 c1 : Nat} {s2 : Bool} {A2 : Option Addr} {n2 c2 : Nat} {x : Rat} {K : Nat} (h : RatH w0 s1 A1 n1 c1 s2 A2 n2 c2 x K true) : IntH w0 s1 A1 n1 c1 x.num K true ∧ IntH w0 s2 A2 n2 c2 (x.den : Int) K true := by
 obtain ⟨l1, l2, g1, g2, -, hn⟩ := h.lim
 obtain ⟨N1, p1, N2, p2, e1, e2⟩ := hn rfl
 exact ⟨⟨⟨l1, g1, e1, fun _ => ⟨N1, p1⟩⟩, h.len1⟩, ⟨⟨l2, g2, e2, fun _ => ⟨N2, p2⟩⟩, h.len2⟩⟩
end Go.Proofs.YthlfhfkfjefidaaGreat
