/- Several texts in one. -/
import Derived.Test.YthlfhfkfjefidaaGreatFrac1
import Derived.Test.YthlfhfkfjefidaaGreatIntG
/- The contracts of Floor, Normal and Whole. -/
namespace Go.Proofs.YthlfhfkfjefidaaGreat
open Go.RowKit
theorem Bk.quad {w : World} {g t : Nat} {a b c d : Value} (h : Bk w g t #[a, b, c, d]) : (w.cell? ⟨g, 0, none⟩ = some a ∧ w.cell? ⟨g, 1, none⟩ = some b ∧ w.cell? ⟨g, 2, none⟩ = some c ∧ w.cell? ⟨g, 3, none⟩ = some d) ∧ w.frozen? ⟨g, 0, none⟩ = false ∧ w.frozen? ⟨g, 1, none⟩ = false ∧ w.frozen? ⟨g, 2, none⟩ = false ∧ w.frozen? ⟨g, 3, none⟩ = false :=
 ⟨⟨by simpa using h.cell 0, by simpa using h.cell 1, by simpa using h.cell 2, by simpa using h.cell 3⟩, h.frozen 0, h.frozen 1, h.frozen 2, h.frozen 3⟩
theorem whole0 (w : World) : Calls Tryz.prog 28 #[.int .i64 0] w (MakesRat 0 1 w) := by
 have hw1 : W 1 = 4294967296 := by decide
 refine (whole_any 0 w (by omega) (by omega)).mono ?_
 intro e w' hr
 exact makesR_of hr (by rw [hw1]; decide) (by rw [hw1]; decide)
end Go.Proofs.YthlfhfkfjefidaaGreat
/- The walks of Add, Sub and Mul. -/
namespace Go.Proofs.YthlfhfkfjefidaaGreat
open Go.RowKit
def cmpQ (x y : Rat) : Int := if x < y then -1 else if x = y then 0 else 1
theorem rat_mul {p q : Int} {x : Rat} (h : Rat.divInt p q = x) (hq : 0 < q) : x * (q : Rat) = (p : Rat) := by
 rw [← h, Rat.divInt_eq_div]
 exact Rat.div_mul_cancel (by exact_mod_cast (show q ≠ 0 by omega))
theorem cmp_cross {p q r s : Int} {x y : Rat} (h1 : Rat.divInt p q = x) (h2 : Rat.divInt r s = y) (hq : 0 < q) (hs : 0 < s) : cmpI (p * s) (r * q) = cmpQ x y := by
 have e1 := rat_mul h1 hq
 have e2 := rat_mul h2 hs
 have q0 : (0 : Rat) < (q : Rat) := by exact_mod_cast hq
 have s0 : (0 : Rat) < (s : Rat) := by exact_mod_cast hs
 have m1 : ((p * s : Int) : Rat) = x * ((q : Rat) * (s : Rat)) := by rw [Rat.intCast_mul, ← e1]; grind
 have m2 : ((r * q : Int) : Rat) = y * ((q : Rat) * (s : Rat)) := by rw [Rat.intCast_mul, ← e2]; grind
 have qs : (0 : Rat) < (q : Rat) * (s : Rat) := Rat.mul_pos q0 s0
 unfold cmpQ
 by_cases h : x < y
 · rw [if_pos h]
   refine cmpI_lt ?_
   have : ((p * s : Int) : Rat) < ((r * q : Int) : Rat) := by rw [m1, m2]; exact (Rat.mul_lt_mul_right qs).2 h
   exact_mod_cast this
 · rw [if_neg h]
   by_cases he : x = y
   · rw [if_pos he]
     refine cmpI_eq ?_
     have : ((p * s : Int) : Rat) = ((r * q : Int) : Rat) := by rw [m1, m2, he]
     exact_mod_cast this
   · rw [if_neg he]
     refine cmpI_gt ?_
     have hg : y < x := by grind
     have : ((r * q : Int) : Rat) < ((p * s : Int) : Rat) := by rw [m1, m2]; exact (Rat.mul_lt_mul_right qs).2 hg
     exact_mod_cast this
set_option maxRecDepth 100000 in
set_option maxHeartbeats 8000000 in
theorem cmpRH {s1 s2 s3 s4 : Bool} {A1 A2 A3 A4 : Option Addr} {n1 c1 n2 c2 n3 c3 n4 c4 K1 K2 : Nat} {f1 f2 : Bool} {x y : Rat} {w1 w2 w : World} (h1 : RatH w1 s1 A1 n1 c1 s2 A2 n2 c2 x K1 f1) (h2 : RatH w2 s3 A3 n3 c3 s4 A4 n4 c4 y K2 f2) (b1 : Below w1.heap.size w1 w) (b2 : Below w2.heap.size w2 w) (k1 : K1 ≤ 300) (k2 : K2 ≤ 300) {C : Int} (hC : cmpQ x y = C) : Calls Tryz.prog 40 #[.agg #[.bool s1, .slice A1 n1 c1, .bool s2, .slice A2 n2 c2], .agg #[.bool s3, .slice A3 n3 c3, .bool s4, .slice A4 n4 c4]] w fun e w' => Below w.heap.size w w' ∧ e = .returned (.int .i64 C) := by
 have HC := Lib.hid hC
 clear hC
 go_enter Tryz.func40, Tryz.ntmps40
 go_wp2_with (first
  | (go_at_call 73; with_reducible refine (termsH h1 ?_).mono ?_; (focus (exact bl)); rintro e wa ⟨hba, sa, Aa, na, ca, sb, Ab, nb, cb, p, q, rfl, ha, hb, hpq, hq⟩; have ky : Bk wa (w.heap.size + 1) 41 #[.bool s3, .slice A3 n3 c3, .bool s4, .slice A4 n4 c4] := bk; obtain ⟨⟨y0, y1, y2, y3⟩, -⟩ := ky.quad; have oza := hba.size; (try simp at oza); have oya := ky.lt; have oya2 : w.heap.size + 1 < wa.heap.size + 1 := (by omega))
  | (go_at_call 73; with_reducible refine (termsH h2 ?_).mono ?_; (focus (exact bl)); rintro e wb ⟨hbb, sc, Ac, nc, cc, sd, Ad, nd, cd, r, s, rfl, hc, hd, hrs, hs⟩; have ka : Bk wb wa.heap.size 24 #[.bool sa, .slice Aa na ca] := bk; have kb : Bk wb (wa.heap.size + 1) 24 #[.bool sb, .slice Ab nb cb] := bk; have ozb := hbb.size; (try simp at ozb); have olb := kb.lt))
 obtain ⟨W, hW⟩ : ∃ W, W = (wb.alloc (.cells #[.bool sc, .slice Ac nc cc] 24)).alloc (.cells #[.bool sd, .slice Ad nd cd] 24) := ⟨_, rfl⟩
 have hbW : Below wb.heap.size wb W := by rw [hW]; exact bl
 have qa : Bk W wa.heap.size 24 #[.bool sa, .slice Aa na ca] := by rw [hW]; exact bk
 have qb : Bk W (wa.heap.size + 1) 24 #[.bool sb, .slice Ab nb cb] := by rw [hW]; exact bk
 have qc : Bk W wb.heap.size 24 #[.bool sc, .slice Ac nc cc] := by rw [hW]; exact bk
 have qd : Bk W (wb.heap.size + 1) 24 #[.bool sd, .slice Ad nd cd] := by rw [hW]; exact bk
 rw [← hW]
 clear hW
 obtain ⟨d0, d1⟩ := qa.duo
 obtain ⟨d2, d3⟩ := qb.duo
 obtain ⟨d4, d5⟩ := qc.duo
 obtain ⟨d6, d7⟩ := qd.duo
 have m0 := qa.lt
 have m1 := qb.lt
 have m2 := qc.lt
 have m3 := qd.lt
 have HCX : Hid (cmpI (p * s) (r * q) = C) := Lib.hid ((cmp_cross hpq hrs hq hs).trans HC.out)
 go_region_held3 (fun w' => (w'.cell? ⟨wa.heap.size, 0, none⟩ = some (.bool sa) ∧ w'.cell? ⟨wa.heap.size, 1, none⟩ = some (.slice Aa na ca)) ∧ (w'.cell? ⟨wa.heap.size + 1, 0, none⟩ = some (.bool sb) ∧ w'.cell? ⟨wa.heap.size + 1, 1, none⟩ = some (.slice Ab nb cb)) ∧ (w'.cell? ⟨wb.heap.size, 0, none⟩ = some (.bool sc) ∧ w'.cell? ⟨wb.heap.size, 1, none⟩ = some (.slice Ac nc cc)) ∧ w'.cell? ⟨wb.heap.size + 1, 0, none⟩ = some (.bool sd) ∧ w'.cell? ⟨wb.heap.size + 1, 1, none⟩ = some (.slice Ad nd cd)) (go_keep) (first
  | (go_at_call 18; with_reducible refine (prodH (by assumption) (by assumption) ?_ ?_ (by omega) (by omega)).mono ?_; (focus (exact bl)); (focus (exact bl)); rintro e wn ⟨hbn, sn, An, nn, cn, rfl, hn⟩; have pa : Bk wn wa.heap.size 24 #[.bool sa, .slice Aa na ca] := bk; have pb : Bk wn (wa.heap.size + 1) 24 #[.bool sb, .slice Ab nb cb] := bk; have pc : Bk wn wb.heap.size 24 #[.bool sc, .slice Ac nc cc] := bk; have pd : Bk wn (wb.heap.size + 1) 24 #[.bool sd, .slice Ad nd cd] := bk; clear qa qb qc qd d0 d1 d2 d3 d4 d5 d6 d7; have qa := pa; have qb := pb; have qc := pc; have qd := pd; clear pa pb pc pd; obtain ⟨d0, d1⟩ := qa.duo; obtain ⟨d2, d3⟩ := qb.duo; obtain ⟨d4, d5⟩ := qc.duo; obtain ⟨d6, d7⟩ := qd.duo; have m0 := qa.lt; have m1 := qb.lt; have m2 := qc.lt; have m3 := qd.lt; have ozn := hbn.size; (try simp at ozn))
  | (go_at_call 22; with_reducible refine (cmpH (by assumption) (by assumption) ?_ ?_ HCX.out).mono ?_; (focus (exact bl)); (focus (exact bl)); rintro e wn ⟨hbn, rfl⟩; have pa : Bk wn wa.heap.size 24 #[.bool sa, .slice Aa na ca] := bk; have pb : Bk wn (wa.heap.size + 1) 24 #[.bool sb, .slice Ab nb cb] := bk; have pc : Bk wn wb.heap.size 24 #[.bool sc, .slice Ac nc cc] := bk; have pd : Bk wn (wb.heap.size + 1) 24 #[.bool sd, .slice Ad nd cd] := bk; clear qa qb qc qd d0 d1 d2 d3 d4 d5 d6 d7; have qa := pa; have qb := pb; have qc := pc; have qd := pd; clear pa pb pc pd; obtain ⟨d0, d1⟩ := qa.duo; obtain ⟨d2, d3⟩ := qb.duo; obtain ⟨d4, d5⟩ := qc.duo; obtain ⟨d6, d7⟩ := qd.duo; have m0 := qa.lt; have m1 := qb.lt; have m2 := qc.lt; have m3 := qd.lt; have ozn := hbn.size; (try simp at ozn)))
 go_wp2
 go_ret
 exact ⟨bl, rfl⟩
end Go.Proofs.YthlfhfkfjefidaaGreat
/- The order of fractions: signs. -/
namespace Go.Proofs.YthlfhfkfjefidaaGreat
open Go.RowKit
theorem cmpQ_lt {x y : Rat} (h : x < y) : cmpQ x y = -1 := by unfold cmpQ; rw [if_pos h]
theorem cmpQ_eq {x y : Rat} (h : x = y) : cmpQ x y = 0 := by unfold cmpQ; rw [if_neg (by grind), if_pos h]
theorem cmpQ_gt {x y : Rat} (h : y < x) : cmpQ x y = 1 := by unfold cmpQ; rw [if_neg (by grind), if_neg (by grind)]
theorem rat_tri (x y : Rat) : x < y ∨ x = y ∨ y < x := by grind
theorem cmpQ_sub (x y : Rat) : cmpQ (x - y) 0 = cmpQ x y := by
 rcases rat_tri x y with h | h | h
 · rw [cmpQ_lt h, cmpQ_lt (by grind)]
 · rw [cmpQ_eq h, cmpQ_eq (by grind)]
 · rw [cmpQ_gt h, cmpQ_gt (by grind)]
end Go.Proofs.YthlfhfkfjefidaaGreat
