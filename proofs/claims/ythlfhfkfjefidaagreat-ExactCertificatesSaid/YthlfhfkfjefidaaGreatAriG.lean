/- Several texts in one. -/
import Derived.Test.YthlfhfkfjefidaaGreatKnuG
import Derived.Deep.RegionWith
import Derived.Deep.DeepCutAuto
import Derived.Deep.CutBlock
import Derived.Test.YthlfhfkfjefidaaGreatBas1
import Derived.Laws.BitsAllLaws
import Derived.Test.YthlfhfkfjefidaaGreatLimG
import Derived.Test.YthlfhfkfjefidaaGreatDiv2
/- Both arguments read in their normal form (x, y = read(x), read(y)); the walk of CmpInt. -/
namespace Go.Proofs.YthlfhfkfjefidaaGreat
open Go.RowKit
def ReadTwo (w0 : World) (g1 g2 : Nat) (s1 s2 : Bool) (A1 A2 : Option Addr) (n1 c1 n2 c2 : Nat) (l1 l2 : List Nat) (wx : World) : Prop :=
 ∃ m1 m2, m1 ≤ n1 ∧ val (l1.take m1) = val l1 ∧ Norm (l1.take m1) ∧ m2 ≤ n2 ∧ val (l2.take m2) = val l2 ∧ Norm (l2.take m2) ∧
  Bk wx g1 24 #[.bool (s1 && decide (0 < m1)), .slice A1 m1 c1] ∧ Bk wx g2 24 #[.bool (s2 && decide (0 < m2)), .slice A2 m2 c2] ∧ Fr (fun k => k = g1 ∨ k = g2) w0 wx
theorem store_two {w W : World} {g1 g2 t : Nat} {a b c d x y z u : Value} (h1 : Bk W g1 t #[a, b]) (h2 : Bk W g2 t #[c, d]) (hne : g1 ≠ g2) (hf : Fr (fun k => k = g1 ∨ k = g2) w W) :
 Bk ((((W.setCell ⟨g1, 0, none⟩ x).setCell ⟨g1, 1, none⟩ y).setCell ⟨g2, 0, none⟩ z).setCell ⟨g2, 1, none⟩ u) g1 t #[x, y] ∧
 Bk ((((W.setCell ⟨g1, 0, none⟩ x).setCell ⟨g1, 1, none⟩ y).setCell ⟨g2, 0, none⟩ z).setCell ⟨g2, 1, none⟩ u) g2 t #[z, u] ∧
 Fr (fun k => k = g1 ∨ k = g2) w ((((W.setCell ⟨g1, 0, none⟩ x).setCell ⟨g1, 1, none⟩ y).setCell ⟨g2, 0, none⟩ z).setCell ⟨g2, 1, none⟩ u) := by
 refine ⟨?_, ?_, ?_⟩
 · have := (((h1.set_ 0 x).set_ 1 y).other (p := ⟨g2, 0, none⟩) hne z).other (p := ⟨g2, 1, none⟩) hne u
   simpa using this
 · have := (((h2.other (p := ⟨g1, 0, none⟩) (Ne.symm hne) x).other (p := ⟨g1, 1, none⟩) (Ne.symm hne) y).set_ 0 z).set_ 1 u
   simpa using this
 · exact (((hf.setCell (fun _ => .inl rfl) 0 x).setCell (fun _ => .inl rfl) 1 y).setCell (fun _ => .inr rfl) 0 z).setCell (fun _ => .inr rfl) 1 u
theorem alloc2_bk (w : World) (o : Obj) (t : TypeId) (cs : Array Value) : Bk ((w.alloc o).alloc (.cells cs t)) (w.heap.size + 1) t cs := by
 have h := Bk.alloc_ (w.alloc o) t cs
 rwa [World.size_alloc] at h
theorem alloc2_below (w : World) (o p : Obj) : Below w.heap.size w ((w.alloc o).alloc p) := ((Below.refl _ _).alloc (Nat.le_refl _) _).alloc (by simp) _
theorem alloc3_below (w : World) (o p q : Obj) : Below w.heap.size w (((w.alloc o).alloc p).alloc q) := (alloc2_below w o p).alloc (by simp; omega) _
theorem sg_read {s : Bool} {l : List Nat} {m : Nat} (hv : val (l.take m) = val l) (hn : Norm (l.take m)) (hm : m ≤ l.length) : sg (s && decide (0 < m)) (val (l.take m)) = sg s (val l) ∧ ((s && decide (0 < m)) = true → 0 < val (l.take m)) := by
 rcases Nat.eq_zero_or_pos m with h | h
 · subst h
   rw [List.take_zero] at hv
   constructor
   · rw [← hv]; cases s <;> simp [sg, val]
   · intro h; simp at h
 · have hd : decide (0 < m) = true := by simpa using h
   rw [hd, Bool.and_true, hv]
   refine ⟨rfl, fun _ => ?_⟩
   rw [← hv]
   exact norm_val_pos hn (by intro e; have := congrArg List.length e; rw [List.length_take, List.length_nil] at this; omega)
theorem cmp_sg_nn (x y : Nat) : cmpI (sg false x) (sg false y) = cmpN x y := by rw [sg_false, sg_false, cmpI_cast]
theorem cmp_sg_tt (x y : Nat) : cmpI (sg true x) (sg true y) = cmpN y x := by
 rw [sg_true, sg_true]
 rcases Nat.lt_trichotomy x y with h | h | h
 · rw [cmpI_gt (by omega), cmpN_gt h]
 · subst h; rw [cmpI_eq rfl, cmpN_self]
 · rw [cmpI_lt (by omega), cmpN_lt h]
theorem cmp_sg_tn {x y : Nat} (h : 0 < x) : cmpI (sg true x) (sg false y) = -1 := by rw [sg_true, sg_false, cmpI_lt (by omega)]
theorem cmp_sg_nt {x y : Nat} (h : 0 < y) : cmpI (sg false x) (sg true y) = 1 := by rw [sg_true, sg_false, cmpI_gt (by omega)]
set_option maxRecDepth 100000 in
set_option maxHeartbeats 4000000 in
theorem cmpInt_any (s1 s2 : Bool) (A1 A2 : Option Addr) (n1 c1 n2 c2 : Nat) (l1 l2 : List Nat) (w : World) (h1 : Lim w w.heap.size A1 n1 c1 l1) (h2 : Lim w w.heap.size A2 n2 c2 l2) :
 Calls Tryz.prog 22 #[.agg #[.bool s1, .slice A1 n1 c1], .agg #[.bool s2, .slice A2 n2 c2]] w fun e w' => e = .returned (.int .i64 (cmpI (sg s1 (val l1)) (sg s2 (val l2)))) ∧ Below w.heap.size w w' := by
 have H1 : Hid (∀ w', Below w.heap.size w w' → Lim w' w'.heap.size A1 n1 c1 l1) := fun w' hb => h1.below hb (Nat.le_refl _) hb.size
 have H2 : Hid (∀ w', Below w.heap.size w w' → Lim w' w'.heap.size A2 n2 c2 l2) := fun w' hb => h2.below hb (Nat.le_refl _) hb.size
 have HN1 := Lib.hid h1.len
 have HN2 := Lib.hid h2.len
 clear h1 h2
 go_enter Tryz.func22, Tryz.ntmps22
 go_upto_region 1 with fail
 go_cut [] (fun wx => ReadTwo ((w.alloc (.cells #[.bool s1, .slice A1 n1 c1] 24)).alloc (.cells #[.bool s2, .slice A2 n2 c2] 24)) w.heap.size (w.heap.size + 1) s1 s2 A1 A2 n1 c1 n2 c2 l1 l2 wx)
 case first =>
  go_region_with (first
   | (go_at_call_of 53 (Value.agg #[.bool s1, .slice A1 n1 c1]); refine (read_any s1 A1 n1 c1 l1 _ (H1.out _ (by repeat (first | exact Below.refl _ _ | assumption | refine Below.drew ?_ | refine Below.drewN ?_ _ | refine Below.alloc ?_ (by simp <;> omega) _ | refine Below.setCell ?_ (by simp <;> omega) _)))).mono ?_; rintro e wa ⟨hba, sa, ma, rfl, hma, hva, hna, rfl⟩; obtain ⟨hca, hfa⟩ := bcell hba; have hza := hba.size; (try simp at hza); have hBa : Below w.heap.size w wa := Below.trans (by repeat (first | exact Below.refl _ _ | assumption | refine Below.drew ?_ | refine Below.drewN ?_ _ | refine Below.alloc ?_ (by simp <;> omega) _ | refine Below.setCell ?_ (by simp <;> omega) _)) (hba.mono (by first | (simp; omega) | omega)); have oaa : w.heap.size < wa.heap.size := (by omega); have oba : w.heap.size + 1 < wa.heap.size := (by omega))
   | (go_at_call_of 53 (Value.agg #[.bool s2, .slice A2 n2 c2]); refine (read_any s2 A2 n2 c2 l2 _ (H2.out _ (by repeat (first | exact Below.refl _ _ | assumption | refine Below.drew ?_ | refine Below.drewN ?_ _ | refine Below.alloc ?_ (by simp <;> omega) _ | refine Below.setCell ?_ (by simp <;> omega) _)))).mono ?_; rintro e wb ⟨hbb, sb, mb, rfl, hmb, hvb, hnb, rfl⟩; obtain ⟨hcb, hfb⟩ := bcell hbb; have hzb := hbb.size; (try simp at hzb); have hBb : Below w.heap.size w wb := Below.trans (by repeat (first | exact Below.refl _ _ | assumption | refine Below.drew ?_ | refine Below.drewN ?_ _ | refine Below.alloc ?_ (by simp <;> omega) _ | refine Below.setCell ?_ (by simp <;> omega) _)) (hbb.mono (by first | (simp; omega) | omega)); have oab : w.heap.size < wb.heap.size := (by omega); have obb : w.heap.size + 1 < wb.heap.size := (by omega)))
  all_goals
   have b1 : Bk wb w.heap.size 24 #[.bool s1, .slice A1 n1 c1] := (hbb.block _ oaa).trans ((hba.block _ (by first | (simp; done) | (simp; omega) | omega)).trans ((Bk.alloc_ w 24 #[.bool s1, .slice A1 n1 c1]).alloc _))
   have b2 : Bk wb (w.heap.size + 1) 24 #[.bool s2, .slice A2 n2 c2] := (hbb.block _ oba).trans ((hba.block _ (by first | (simp; done) | (simp; omega) | omega)).trans (alloc2_bk w _ _ _))
   have hst := store_two (x := .bool (s1 && decide (0 < ma))) (y := .slice A1 ma c1) (z := .bool (s2 && decide (0 < mb))) (u := .slice A2 mb c2) b1 b2 (by omega)
    (Fr.of_below (S := fun k => k = w.heap.size ∨ k = w.heap.size + 1) (w := ((w.alloc (.cells #[.bool s1, .slice A1 n1 c1] 24)).alloc (.cells #[.bool s2, .slice A2 n2 c2] 24))) ((((Below.refl _ _).drew).trans hba).trans (hbb.mono (by first | (simp; done) | (simp; omega) | omega))))
   have HST := Lib.hid hst
   clear b1 b2 hst hca hcb hfa hfb hza hzb
   go_wp2_with fail
   go_meet
   exact ⟨ma, mb, hma, hva, hna, hmb, hvb, hnb, HST.out⟩
 case rest =>
  obtain ⟨m1, m2, hm1, hv1, hn1, hm2, hv2, hn2, k1, k2, hf⟩ := hcut
  obtain ⟨z1, p1⟩ := sg_read (s := s1) hv1 hn1 (by rw [HN1.out]; exact hm1)
  obtain ⟨z2, p2⟩ := sg_read (s := s2) hv2 hn2 (by rw [HN2.out]; exact hm2)
  generalize (s1 && decide (0 < m1)) = t1 at z1 p1 k1
  generalize (s2 && decide (0 < m2)) = t2 at z2 p2 k2
  have hbw : Below w.heap.size w wc := Below.trans (alloc2_below _ _ _) (hf.below (by first | (simp; done) | (simp; omega) | omega) (fun k hk h => by rcases h with h | h <;> omega))
  have L1 := (H1.out wc hbw).take hm1
  have L2 := (H2.out wc hbw).take hm2
  have e10 : wc.cell? ⟨w.heap.size, 0, none⟩ = some (.bool t1) := by simpa using k1.cell 0
  have e11 : wc.cell? ⟨w.heap.size, 1, none⟩ = some (.slice A1 m1 c1) := by simpa using k1.cell 1
  have e20 : wc.cell? ⟨w.heap.size + 1, 0, none⟩ = some (.bool t2) := by simpa using k2.cell 0
  have e21 : wc.cell? ⟨w.heap.size + 1, 1, none⟩ = some (.slice A2 m2 c2) := by simpa using k2.cell 1
  have Z1 := Lib.hid z1
  have Z2 := Lib.hid z2
  have HB := Lib.hid hbw
  have HF := Lib.hid hf
  have KK1 := Lib.hid k1
  have KK2 := Lib.hid k2
  clear z1 z2 hbw hf k1 k2 hv1 hv2
  cases t1 <;> cases t2
  · have hcp := compareLimbs_any A1 A2 m1 c1 m2 c2 _ _ _ _ wc L1 L2 hn1 hn2
    have HCP := Lib.hid hcp
    clear hcp
    go_wp2_with (go_at_call 61; refine HCP.out.mono ?_; rintro e w' ⟨rfl, k, rfl⟩)
    go_ret
    exact ⟨by rw [← Z1.out, ← Z2.out, cmp_sg_nn]; rfl, Below.drewN HB.out k⟩
  · have hp := p2 rfl
    go_wp2
    go_ret
    exact ⟨by rw [← Z1.out, ← Z2.out, cmp_sg_nt hp]; rfl, HB.out⟩
  · have hp := p1 rfl
    go_wp2
    go_ret
    exact ⟨by rw [← Z1.out, ← Z2.out, cmp_sg_tn hp]; rfl, HB.out⟩
  · have hcp := compareLimbs_any A2 A1 m2 c2 m1 c1 _ _ _ _ wc L2 L1 hn2 hn1
    have HCP := Lib.hid hcp
    clear hcp
    go_wp2_with (go_at_call 61; refine HCP.out.mono ?_; rintro e w' ⟨rfl, k, rfl⟩)
    go_ret
    exact ⟨by rw [← Z1.out, ← Z2.out, cmp_sg_tt]; rfl, Below.drewN HB.out k⟩
end Go.Proofs.YthlfhfkfjefidaaGreat
/- The walk of math/bits.Sub32: the difference of two words and the borrow. -/
namespace Go.Proofs.YthlfhfkfjefidaaGreat
open Go.RowKit
theorem borrow_nat (x y c d : Nat) (hx : x < 4294967296) (hy : y < 4294967296) (hc : c ≤ 1) (hd : d < 4294967296) (r : Nat) (hr : d + y + c = x + 4294967296 * r) :
 (((4294967295 ^^^ x) &&& y) ||| ((4294967295 ^^^ (x ^^^ y)) &&& d)) / 2147483648 = r := by
 rw [show (2147483648 : Nat) = 2 ^ 31 from rfl, Nat.or_div_two_pow, Nat.and_div_two_pow, Nat.and_div_two_pow, Nat.xor_div_two_pow, Nat.xor_div_two_pow, Nat.xor_div_two_pow,
  show (4294967295 : Nat) / 2 ^ 31 = 1 from rfl, show (2 : Nat) ^ 31 = 2147483648 from rfl]
 have h1 : x / 2147483648 = 0 ∨ x / 2147483648 = 1 := by omega
 have h2 : y / 2147483648 = 0 ∨ y / 2147483648 = 1 := by omega
 have h3 : d / 2147483648 = 0 ∨ d / 2147483648 = 1 := by omega
 rcases h1 with h1 | h1 <;> rcases h2 with h2 | h2 <;> rcases h3 with h3 | h3 <;> rw [h1, h2, h3]
 · show 0 = r; omega
 · show 1 = r; omega
 · show 1 = r; omega
 · show 1 = r; omega
 · show 0 = r; omega
 · show 0 = r; omega
 · show 0 = r; omega
 · show 1 = r; omega
theorem borrow_int (x y c d : Nat) (hx : x < 4294967296) (hy : y < 4294967296) (hc : c ≤ 1) (hd : d < 4294967296) (r : Nat) (hr : d + y + c = x + 4294967296 * r) :
 bits .or .u32 (bits .and .u32 (bits .xor .u32 IntKind.u32.max (x : Int)) (y : Int)) (bits .and .u32 (bits .xor .u32 IntKind.u32.max (bits .xor .u32 (x : Int) (y : Int))) (d : Int)) / 2147483648 = (r : Int) := by
 have hm : IntKind.u32.max = ((4294967295 : Nat) : Int) := rfl
 have b1 : x ^^^ y < 4294967296 := Nat.xor_lt_two_pow (n := 32) hx hy
 have b2 : 4294967295 ^^^ x < 4294967296 := Nat.xor_lt_two_pow (n := 32) (by omega) hx
 have b3 : 4294967295 ^^^ (x ^^^ y) < 4294967296 := Nat.xor_lt_two_pow (n := 32) (by omega) b1
 have b4 : (4294967295 ^^^ x) &&& y < 4294967296 := Nat.and_lt_two_pow (n := 32) _ hy
 have b5 : (4294967295 ^^^ (x ^^^ y)) &&& d < 4294967296 := Nat.and_lt_two_pow (n := 32) _ hd
 rw [hm, u32_xor_nat _ _ (by omega) hx, u32_and_nat _ _ b2 hy, u32_xor_nat _ _ hx hy, u32_xor_nat _ _ (by omega) b1, u32_and_nat _ _ b3 hd, u32_or_nat _ _ b4 b5]
 have := borrow_nat x y c d hx hy hc hd r hr
 omega
set_option maxHeartbeats 400000 in
theorem sub32_any (x y c : Nat) (w : World) (hx : x < 4294967296) (hy : y < 4294967296) (hc : c ≤ 1) :
 Calls Tryz.prog 104 #[.int .u32 (x : Int), .int .u32 (y : Int), .int .u32 (c : Int)] w fun e w' => w = w' ∧
  ∃ s r : Nat, e = .returned (.tuple #[.int .u32 (s : Int), .int .u32 (r : Int)]) ∧ s < 4294967296 ∧ r ≤ 1 ∧ Hid (s + y + c = x + 4294967296 * r) := by
 go_enter Tryz.func104, Tryz.ntmps104
 go_wp2
 go_ret2
 obtain ⟨d, r, hd, hr, h1, h2⟩ : ∃ d r : Nat, d < 4294967296 ∧ r ≤ 1 ∧ ((x : Int) - y - c) % 4294967296 = d ∧ d + y + c = x + 4294967296 * r :=
  ⟨(((x : Int) - y - c) % 4294967296).toNat, if x < y + c then 1 else 0, by omega, by split <;> omega, by omega, by split <;> omega⟩
 exact ⟨rfl, d, r, ret_int2 h1 (by rw [h1]; exact borrow_int x y c d hx hy hc hd r h2), hd, hr, h2⟩
end Go.Proofs.YthlfhfkfjefidaaGreat
/- The walk of subtractLimbs: the difference of two numbers, the second not the greater one, in new memory. -/
namespace Go.Proofs.YthlfhfkfjefidaaGreat
open Go.RowKit
set_option maxHeartbeats 1000000 in
theorem subtractLimbs_any (A A2 : Option Addr) (n c m d : Nat) (a b : List Nat) (w : World) (ha : Lim w w.heap.size A n c a) (hb : Lim w w.heap.size A2 m d b) (hle : val b ≤ val a) (nb : Norm b) (hn : n ≤ 1073741824) :
 Calls Tryz.prog 62 #[.slice A n c, .slice A2 m d] w (NatR (val a - val b) w) := by
 have hcap := ha.cap
 have hcap2 := hb.cap
 have hla := Lib.hid ha.len
 have hlb := Lib.hid hb.len
 have hnm : m ≤ n := by
  rcases Nat.lt_or_ge n m with h | h
  · have := norm_len_lt ha.bd nb (by rw [hla.out, hlb.out]; exact h)
    omega
  · exact h
 clear nb
 obtain ⟨i0, hi0, hz0, hz1, hz2⟩ := info_parts info_u32
 have hmk := fun W => make_u32 (P := Tryz.prog) Tryz.underlying22 hi0 hz0 hz1 hz2 n (n : Int) rfl (by omega) W
 have hba := Lib.hid ha.bd
 have hbb := Lib.hid hb.bd
 clear hi0 hz0 hz1 hz2
 go_enter Tryz.func62, Tryz.ntmps62
 go_wp2
 go_loopw [6, 15] (fun cv iv wr => ∃ (k r : Nat) (O : List Nat), k ≤ m ∧ iv = .int .i64 (k : Int) ∧ cv = .int .u32 (r : Int) ∧ r ≤ 1 ∧ Buf wr w.heap.size 81 O ∧ Hid (O.length = n) ∧ Hid (val (O.take k) + val (b.take k) = val (a.take k) + W k * r) ∧ Below w.heap.size w wr)
  (fun _ iv _ => m - (intOf iv).toNat)
 case atStart =>
  exact ⟨0, 0, List.replicate n 0, by omega, rfl, rfl, by omega, ⟨Bk.alloc_ _ _ _, Bd.replicate _⟩, by simp [Hid], by simp [Hid, val], (Below.refl _ _).alloc (Nat.le_refl _) _⟩
 case round =>
  obtain ⟨k, r, O, hk, rfl, rfl, hr, hO, hOl, hval, hB⟩ := hrel
  by_cases hlt : k < m
  · obtain ⟨b1, o1, x, rfl, hb1, hx, hxb, hc1⟩ := (ha.below hB (Nat.le_refl _) (Nat.le_refl _)).at_ (k := k) (by omega)
    obtain ⟨b2, o2, y, rfl, hb2, hy, hyb, hc2⟩ := (hb.below hB (Nat.le_refl _) (Nat.le_refl _)).at_ (k := k) hlt
    obtain ⟨z, hz, hc3⟩ := hO.cell (k := k) (by rw [hOl.out]; omega)
    have hf3 := hO.frozen k
    have HX := Lib.hid hx
    have HY := Lib.hid hy
    clear hx hy hz
    go_wp2_with (go_at_call 104; refine (sub32_any _ _ _ _ hxb hyb hr).mono ?_; rintro e w' ⟨rfl, s, r', rfl, hs, hr', hsum⟩)
    go_roundw
    case rel =>
     exact ⟨k + 1, r', O.set k s, by omega, by go_num, rfl, hr', hO.set_ k s hs, by show (O.set k s).length = n; rw [List.length_set]; exact hOl.out,
      by show val ((O.set k s).take (k + 1)) + val (b.take (k + 1)) = val (a.take (k + 1)) + _; rw [val_set_take O s (by rw [hOl.out]; omega), val_take_get a HX.out, val_take_get b HY.out]; exact sub_col hval.out hsum.out, hB.setCell (by simp) _⟩
    case measure => simp [intOf]; omega
  · obtain rfl : k = m := by omega
    have hvb : Hid (val (b.take k) = val b) := val_take_all hlb.out
    go_wp2
    go_loopw [6, 9] (fun cv iv wr => ∃ (j r : Nat) (O : List Nat), k ≤ j ∧ j ≤ n ∧ iv = .int .i64 (j : Int) ∧ cv = .int .u32 (r : Int) ∧ r ≤ 1 ∧ Buf wr w.heap.size 81 O ∧ Hid (O.length = n) ∧ Hid (val (O.take j) + val b = val (a.take j) + W j * r) ∧ Below w.heap.size w wr)
     (fun _ iv _ => n - (intOf iv).toNat)
    case atStart =>
     exact ⟨k, r, O, Nat.le_refl _, hnm, rfl, rfl, hr, hO, hOl, by rw [← hvb.out]; exact hval, hB⟩
    case round =>
     clear hval hO hB hr hOl
     obtain ⟨j, r, O, hkj, hj, rfl, rfl, hr, hO, hOl, hval, hB⟩ := hrel
     by_cases hlt : j < n
     · obtain ⟨b1, o1, x, rfl, hb1, hx, hxb, hc1⟩ := (ha.below hB (Nat.le_refl _) (Nat.le_refl _)).at_ (k := j) hlt
       obtain ⟨z, hz, hc3⟩ := hO.cell (k := j) (by rw [hOl.out]; omega)
       have hf3 := hO.frozen j
       have HX := Lib.hid hx
       clear hx hz
       go_wp2_with (go_at_call 104; refine (sub32_any _ 0 _ _ hxb (by omega) hr).mono ?_; rintro e w' ⟨rfl, s, r', rfl, hs, hr', hsum⟩)
       go_roundw
       case rel =>
        refine ⟨j + 1, r', O.set j s, by omega, by omega, by go_num, rfl, hr', hO.set_ j s hs, ?_, ?_, hB.setCell (by simp) _⟩
        · show (O.set j s).length = n
          rw [List.length_set]; exact hOl.out
        · show val ((O.set j s).take (j + 1)) + val b = val (a.take (j + 1)) + _
          rw [val_set_take O s (by rw [hOl.out]; omega), val_take_get a HX.out]
          have := sub_col (y := 0) hval.out hsum.out
          omega
       case measure => simp [intOf]; omega
     · obtain rfl : j = n := by omega
       have hlim : Lim wr wr.heap.size (some ⟨w.heap.size, 0, none⟩) j j (O.take j) := hO.lim hO.lt (by omega) (by omega) (by rw [hOl.out]; exact Nat.le_refl _)
       have HL := Lib.hid hlim
       have HV : Hid (val (O.take j) = val a - val b) := by
        have h1 := hval.out
        rw [val_take_all hla.out] at h1
        have h2 := val_lt (hO.bd.take j)
        rw [List.length_take, hOl.out, Nat.min_self] at h2
        show _ = _
        rcases Nat.eq_zero_or_pos r with h3 | h3
        · subst h3; omega
        · have : W j * 1 ≤ W j * r := Nat.mul_le_mul_left _ h3
          omega
       clear hlim hval
       go_wp2_with (go_at_call 97; refine (trim_any _ _ _ _ _ _ HL.out).mono ?_; rintro e w' ⟨rfl, q, rfl, hq, hv, hn2⟩)
       go_ret
       exact ⟨hB, _, q, _, _, rfl, HL.out.take hq, hn2, hv.trans HV.out⟩
end Go.Proofs.YthlfhfkfjefidaaGreat
/- The walk of Sum. -/
namespace Go.Proofs.YthlfhfkfjefidaaGreat
open Go.RowKit
theorem mkInt {w : World} {B : Nat} {A : Option Addr} {q c : Nat} {l : List Nat} {t : Bool} {z : Int} (hl : Lim w B A q c l) (hn : Norm l) (hz : z = sg t (val l)) : IntAt w B (.agg #[.bool (t && decide (0 < q)), .slice A q c]) z := by
 refine ⟨_, A, q, c, l, rfl, hl, hn, ?_, fun h => by simp at h; exact h.2⟩
 rw [hz]
 rcases Nat.eq_zero_or_pos q with h | h
 · have : l = [] := List.eq_nil_of_length_eq_zero (by rw [hl.len, h])
   subst this
   cases t <;> simp [sg, val]
 · have hd : decide (0 < q) = true := by simpa using h
   rw [hd, Bool.and_true]
def IntR (z : Int) (w : World) (e : Ending) (w' : World) : Prop := Below w.heap.size w w' ∧ ∃ v, e = .returned v ∧ IntAt w' w'.heap.size v z
theorem Lim.past {w : World} {B n c : Nat} {A : Option Addr} {l : List Nat} (h : Lim w B A n c l) {g t : Nat} {x : Bool} {y1 : Option Addr} {y2 y3 : Nat} (hb : Bk w g t #[.bool x, .slice y1 y2 y3]) (u v : Value) :
 Lim ((w.setCell ⟨g, 0, none⟩ u).setCell ⟨g, 1, none⟩ v) B A n c l := by
 refine ⟨⟨h.sl.len, h.sl.cap, h.sl.max, fun hn => ?_⟩, h.bd⟩
 obtain ⟨b, o, x0, e, hbb, hx0, _, hc0⟩ := h.at_ (k := 0) hn
 obtain ⟨b', o', e', _, hc⟩ := h.sl.cells hn
 rw [e] at e'
 simp only [Option.some.injEq, Addr.mk.injEq, and_true] at e'
 obtain ⟨rfl, rfl⟩ := e'
 have hne : g ≠ b := by
  rintro rfl
  rw [Nat.add_zero, hb.cell] at hc0
  match o, hc0 with
  | 0, h => simp at h
  | 1, h => simp at h
  | k + 2, h => simp at h
 refine ⟨b, o, e, hbb, fun k u' hu => ?_⟩
 rw [World.cell?_setCell_other _ _ _ _ (fun h => hne (congrArg Addr.block h)), World.cell?_setCell_other _ _ _ _ (fun h => hne (congrArg Addr.block h))]
 exact hc k u' hu
theorem sum_same (t : Bool) (x y : Nat) : sg t x + sg t y = sg t (x + y) := by cases t <;> simp [sg] <;> omega
theorem sum_ge {t u : Bool} {x y : Nat} (h : t ≠ u) (hle : y ≤ x) : sg t x + sg u y = sg t (x - y) := by cases t <;> cases u <;> simp [sg] at * <;> omega
theorem sum_lt {t u : Bool} {x y : Nat} (h : t ≠ u) (hle : x ≤ y) : sg t x + sg u y = sg u (y - x) := by cases t <;> cases u <;> simp [sg] at * <;> omega
set_option maxRecDepth 100000 in
set_option maxHeartbeats 8000000 in
theorem sum_any (s1 s2 : Bool) (A1 A2 : Option Addr) (n1 c1 n2 c2 : Nat) (l1 l2 : List Nat) (w : World) (h1 : Lim w w.heap.size A1 n1 c1 l1) (h2 : Lim w w.heap.size A2 n2 c2 l2) (b1 : n1 ≤ 536870912) (b2 : n2 ≤ 536870912) :
 Calls Tryz.prog 14 #[.agg #[.bool s1, .slice A1 n1 c1], .agg #[.bool s2, .slice A2 n2 c2]] w (IntR (sg s1 (val l1) + sg s2 (val l2)) w) := by
 have H1 : Hid (∀ w', Below w.heap.size w w' → Lim w' w'.heap.size A1 n1 c1 l1) := fun w' hb => h1.below hb (Nat.le_refl _) hb.size
 have H2 : Hid (∀ w', Below w.heap.size w w' → Lim w' w'.heap.size A2 n2 c2 l2) := fun w' hb => h2.below hb (Nat.le_refl _) hb.size
 have HN1 := Lib.hid h1.len
 have HN2 := Lib.hid h2.len
 clear h1 h2
 go_enter Tryz.func14, Tryz.ntmps14
 go_upto_region 1 with fail
 go_cut [] (fun wx => ReadTwo (((w.alloc (.cells #[.bool s1, .slice A1 n1 c1] 24)).alloc (.cells #[.bool s2, .slice A2 n2 c2] 24)).alloc (.cells #[.bool false, .slice none 0 0] 24)) w.heap.size (w.heap.size + 1) s1 s2 A1 A2 n1 c1 n2 c2 l1 l2 wx)
 case first =>
  go_region_with (first
   | (go_at_call_of 53 (Value.agg #[.bool s1, .slice A1 n1 c1]); refine (read_any s1 A1 n1 c1 l1 _ (H1.out _ (by repeat (first | exact Below.refl _ _ | assumption | refine Below.drew ?_ | refine Below.drewN ?_ _ | refine Below.alloc ?_ (by simp <;> omega) _ | refine Below.setCell ?_ (by simp <;> omega) _)))).mono ?_; rintro e wa ⟨hba, sa, ma, rfl, hma, hva, hna, rfl⟩; obtain ⟨hca, hfa⟩ := bcell hba; have hza := hba.size; (try simp at hza); have hBa : Below w.heap.size w wa := Below.trans (by repeat (first | exact Below.refl _ _ | assumption | refine Below.drew ?_ | refine Below.drewN ?_ _ | refine Below.alloc ?_ (by simp <;> omega) _ | refine Below.setCell ?_ (by simp <;> omega) _)) (hba.mono (by first | (simp; omega) | omega)); have oaa : w.heap.size < wa.heap.size := (by omega); have oba : w.heap.size + 1 < wa.heap.size := (by omega))
   | (go_at_call_of 53 (Value.agg #[.bool s2, .slice A2 n2 c2]); refine (read_any s2 A2 n2 c2 l2 _ (H2.out _ (by repeat (first | exact Below.refl _ _ | assumption | refine Below.drew ?_ | refine Below.drewN ?_ _ | refine Below.alloc ?_ (by simp <;> omega) _ | refine Below.setCell ?_ (by simp <;> omega) _)))).mono ?_; rintro e wb ⟨hbb, sb, mb, rfl, hmb, hvb, hnb, rfl⟩; obtain ⟨hcb, hfb⟩ := bcell hbb; have hzb := hbb.size; (try simp at hzb); have hBb : Below w.heap.size w wb := Below.trans (by repeat (first | exact Below.refl _ _ | assumption | refine Below.drew ?_ | refine Below.drewN ?_ _ | refine Below.alloc ?_ (by simp <;> omega) _ | refine Below.setCell ?_ (by simp <;> omega) _)) (hbb.mono (by first | (simp; omega) | omega)); have oab : w.heap.size < wb.heap.size := (by omega); have obb : w.heap.size + 1 < wb.heap.size := (by omega)))
  all_goals
   have b1 : Bk wb w.heap.size 24 #[.bool s1, .slice A1 n1 c1] := (hbb.block _ oaa).trans ((hba.block _ (by first | (simp; done) | (simp; omega) | omega)).trans (((Bk.alloc_ w 24 #[.bool s1, .slice A1 n1 c1]).alloc _).alloc _))
   have b2 : Bk wb (w.heap.size + 1) 24 #[.bool s2, .slice A2 n2 c2] := (hbb.block _ oba).trans ((hba.block _ (by first | (simp; done) | (simp; omega) | omega)).trans ((alloc2_bk w _ _ _).alloc _))
   have hst := store_two (x := .bool (s1 && decide (0 < ma))) (y := .slice A1 ma c1) (z := .bool (s2 && decide (0 < mb))) (u := .slice A2 mb c2) b1 b2 (by omega)
    (Fr.of_below (S := fun k => k = w.heap.size ∨ k = w.heap.size + 1) (w := (((w.alloc (.cells #[.bool s1, .slice A1 n1 c1] 24)).alloc (.cells #[.bool s2, .slice A2 n2 c2] 24)).alloc (.cells #[.bool false, .slice none 0 0] 24))) ((((Below.refl _ _).drew).trans hba).trans (hbb.mono (by first | (simp; done) | (simp; omega) | omega))))
   have HST := Lib.hid hst
   clear b1 b2 hst hca hcb hfa hfb hza hzb
   go_wp2_with fail
   go_meet
   exact ⟨ma, mb, hma, hva, hna, hmb, hvb, hnb, HST.out⟩
 case rest =>
  obtain ⟨m1, m2, hm1, hv1, hn1, hm2, hv2, hn2, k1, k2, hf⟩ := hcut
  obtain ⟨z1, p1⟩ := sg_read (s := s1) hv1 hn1 (by rw [HN1.out]; exact hm1)
  obtain ⟨z2, p2⟩ := sg_read (s := s2) hv2 hn2 (by rw [HN2.out]; exact hm2)
  generalize (s1 && decide (0 < m1)) = t1 at z1 p1 k1
  generalize (s2 && decide (0 < m2)) = t2 at z2 p2 k2
  have hbw : Below w.heap.size w wc := Below.trans (alloc3_below _ _ _ _) (hf.below (by first | (simp; done) | (simp; omega) | omega) (fun k hk h => by rcases h with h | h <;> omega))
  have L1 := (H1.out wc hbw).take hm1
  have L2 := (H2.out wc hbw).take hm2
  have e10 : wc.cell? ⟨w.heap.size, 0, none⟩ = some (.bool t1) := by simpa using k1.cell 0
  have e11 : wc.cell? ⟨w.heap.size, 1, none⟩ = some (.slice A1 m1 c1) := by simpa using k1.cell 1
  have e20 : wc.cell? ⟨w.heap.size + 1, 0, none⟩ = some (.bool t2) := by simpa using k2.cell 0
  have e21 : wc.cell? ⟨w.heap.size + 1, 1, none⟩ = some (.slice A2 m2 c2) := by simpa using k2.cell 1
  have Z1 := Lib.hid z1
  have Z2 := Lib.hid z2
  have HB := Lib.hid hbw
  have HF := Lib.hid hf
  have KK1 := Lib.hid k1
  have KK2 := Lib.hid k2
  clear z1 z2 hbw hf k1 k2 hv1 hv2
  have k3 : Bk wc (w.heap.size + 2) 24 #[.bool false, .slice none 0 0] := (HF.out.block (w.heap.size + 2) (by simp) (fun h => by rcases h with h | h <;> omega)).trans (by have h := Bk.alloc_ ((w.alloc (.cells #[.bool s1, .slice A1 n1 c1] 24)).alloc (.cells #[.bool s2, .slice A2 n2 c2] 24)) 24 #[.bool false, .slice none 0 0]; rw [World.size_alloc, World.size_alloc] at h; exact h)
  have o3 := k3.lt
  have o1 : w.heap.size < wc.heap.size := by omega
  have o2 : w.heap.size + 1 < wc.heap.size := by omega
  have e30 : wc.cell? ⟨w.heap.size + 2, 0, none⟩ = some (.bool false) := by simpa using k3.cell 0
  have e31 : wc.cell? ⟨w.heap.size + 2, 1, none⟩ = some (.slice none 0 0) := by simpa using k3.cell 1
  have f30 := k3.frozen 0
  have f31 := k3.frozen 1
  have HK3 := Lib.hid k3
  clear k3
  by_cases ht : t1 = t2
  · subst ht
    have hadd := addLimbs_any A1 A2 m1 c1 m2 c2 _ _ wc.drew L1.drew L2.drew (by omega) (by omega)
    have HADD := Lib.hid hadd
    have hbeq : (t1 == t1) = true := by simp
    clear hadd
    go_wp2_with fail
    go_region_held3 (fun w' => w'.cell? ⟨w.heap.size, 0, none⟩ = some (.bool t1) ∧ w'.cell? ⟨w.heap.size, 1, none⟩ = some (.slice A1 m1 c1) ∧ w'.cell? ⟨w.heap.size + 1, 0, none⟩ = some (.bool t1) ∧ w'.cell? ⟨w.heap.size + 1, 1, none⟩ = some (.slice A2 m2 c2)) (go_keep)
     (first
       | (go_at_call 60; refine HADD.out.mono ?_; rintro e wa ⟨hba, Aa, qa, ca, la, rfl, hla, hna, hva⟩; obtain ⟨hca, hfa⟩ := bcell hba; have hza : wc.heap.size ≤ wa.heap.size := hba.size; have oa1 : w.heap.size < wa.heap.size := (by omega); have oa2 : w.heap.size + 1 < wa.heap.size := (by omega); have oa3 : w.heap.size + 2 < wa.heap.size := (by omega); have q1 := (hca _ 0 o1).trans e10; have q2 := (hca _ 1 o1).trans e11; have q3 := (hca _ 0 o2).trans e20; have q8 := (hca _ 1 o2).trans e21; have q4 := (hca _ 0 o3).trans e30; have q5 := (hca _ 1 o3).trans e31; have q6 := (hfa _ 0 o3).trans f30; have q7 := (hfa _ 1 o3).trans f31; have HLA := Lib.hid hla; have HVA := Lib.hid hva; clear hla hva)
       | (go_at_call 57; refine (signed_any _ _ _ _ _).mono ?_; rintro e wb ⟨rfl, hbb⟩; obtain ⟨hcb, hfb⟩ := bcell hbb; have hzb := hbb.size; have p1' := (hcb _ 0 oa1).trans q1; have p2' := (hcb _ 1 oa1).trans q2; have p3' := (hcb _ 0 oa2).trans q3; have p8' := (hcb _ 1 oa2).trans q8; have p4' := (hcb _ 0 oa3).trans q4; have p5' := (hcb _ 1 oa3).trans q5; have p6' := (hfb _ 0 oa3).trans q6; have p7' := (hfb _ 1 oa3).trans q7; have hcx : ∀ (W : World) (o j : Nat) (u : Value), (W.setCell ⟨w.heap.size + 1 + 1, o, none⟩ u).cell? ⟨w.heap.size, j, none⟩ = W.cell? ⟨w.heap.size, j, none⟩ := (fun W o j u => World.cell?_setCell_other W _ _ u (fun e => by have := congrArg Addr.block e; simp at this; omega)); have hcy : ∀ (W : World) (o j : Nat) (u : Value), (W.setCell ⟨w.heap.size + 1 + 1, o, none⟩ u).cell? ⟨w.heap.size + 1, j, none⟩ = W.cell? ⟨w.heap.size + 1, j, none⟩ := (fun W o j u => World.cell?_setCell_other W _ _ u (fun e => by have := congrArg Addr.block e; simp at this))))
    go_wp2
    have hbel : Below w.heap.size w wb := (Below.trans (HB.out.drew) (hba.mono (by first | (simp; done) | (simp; omega) | omega))).trans (hbb.mono (by omega))
    have hlim := (HLA.out.below hbb (Nat.le_refl _) (Nat.le_refl _)).mono hbb.size
    have hk3b : Bk wb (w.heap.size + 1 + 1) 24 #[.bool false, .slice none 0 0] := (hbb.block _ oa3).trans ((hba.block _ o3).trans HK3.out)
    have hlim2 := hlim.past hk3b (.bool (t1 && decide (0 < qa))) (.slice Aa qa ca)
    refine bodyPost_ret (v := .agg #[.bool (t1 && decide (0 < qa)), .slice Aa qa ca]) (by simp [results, Tryz.results14, go_sem, p4', p5']) rfl ⟨(hbel.setCell (by simp; omega) _).setCell (by simp; omega) _, _, rfl, mkInt (hlim2.mono (by simp)) hna (by rw [HVA.out, ← Z1.out, ← Z2.out]; exact sum_same _ _ _)⟩
  · have hbeq : (t1 == t2) = false := by simp [ht]
    have hcp := compareLimbs_any A1 A2 m1 c1 m2 c2 _ _ _ _ wc L1 L2 hn1 hn2
    have HCP := Lib.hid hcp
    clear hcp
    go_wp2_with fail
    refine HCP.out.mono ?_
    rintro e w' ⟨rfl, kc, rfl⟩
    rcases Nat.lt_or_ge (val (l1.take m1)) (val (l2.take m2)) with hlt | hge
    · have hc : cmpN (val (l1.take m1)) (val (l2.take m2)) = -1 := cmpN_lt hlt
      have hadd := subtractLimbs_any A2 A1 m2 c2 m1 c1 _ _ (wc.drewN kc).drew (L2.drewN kc).drew (L1.drewN kc).drew (Nat.le_of_lt hlt) hn1 (by omega)
      have HADD := Lib.hid hadd
      have HLT := Lib.hid hlt
      rw [hc]
      clear hadd hlt hc
      go_wp2_with fail
      go_region_held3 (fun w' => w'.cell? ⟨w.heap.size, 0, none⟩ = some (.bool t1) ∧ w'.cell? ⟨w.heap.size, 1, none⟩ = some (.slice A1 m1 c1) ∧ w'.cell? ⟨w.heap.size + 1, 0, none⟩ = some (.bool t2) ∧ w'.cell? ⟨w.heap.size + 1, 1, none⟩ = some (.slice A2 m2 c2)) (go_keep)
       (first
         | (go_at_call 62; refine HADD.out.mono ?_; rintro e wa ⟨hba, Aa, qa, ca, la, rfl, hla, hna, hva⟩; obtain ⟨hca, hfa⟩ := bcell hba; have hza : wc.heap.size ≤ wa.heap.size := hba.size; have oa1 : w.heap.size < wa.heap.size := (by omega); have oa2 : w.heap.size + 1 < wa.heap.size := (by omega); have oa3 : w.heap.size + 2 < wa.heap.size := (by omega); have q1 := (hca _ 0 o1).trans e10; have q2 := (hca _ 1 o1).trans e11; have q3 := (hca _ 0 o2).trans e20; have q8 := (hca _ 1 o2).trans e21; have q4 := (hca _ 0 o3).trans e30; have q5 := (hca _ 1 o3).trans e31; have q6 := (hfa _ 0 o3).trans f30; have q7 := (hfa _ 1 o3).trans f31; have HLA := Lib.hid hla; have HVA := Lib.hid hva; clear hla hva)
         | (go_at_call 57; refine (signed_any _ _ _ _ _).mono ?_; rintro e wb ⟨rfl, hbb⟩; obtain ⟨hcb, hfb⟩ := bcell hbb; have hzb := hbb.size; have p1' := (hcb _ 0 oa1).trans q1; have p2' := (hcb _ 1 oa1).trans q2; have p3' := (hcb _ 0 oa2).trans q3; have p8' := (hcb _ 1 oa2).trans q8; have p4' := (hcb _ 0 oa3).trans q4; have p5' := (hcb _ 1 oa3).trans q5; have p6' := (hfb _ 0 oa3).trans q6; have p7' := (hfb _ 1 oa3).trans q7; have hcx : ∀ (W : World) (o j : Nat) (u : Value), (W.setCell ⟨w.heap.size + 1 + 1, o, none⟩ u).cell? ⟨w.heap.size, j, none⟩ = W.cell? ⟨w.heap.size, j, none⟩ := (fun W o j u => World.cell?_setCell_other W _ _ u (fun e => by have := congrArg Addr.block e; simp at this; omega)); have hcy : ∀ (W : World) (o j : Nat) (u : Value), (W.setCell ⟨w.heap.size + 1 + 1, o, none⟩ u).cell? ⟨w.heap.size + 1, j, none⟩ = W.cell? ⟨w.heap.size + 1, j, none⟩ := (fun W o j u => World.cell?_setCell_other W _ _ u (fun e => by have := congrArg Addr.block e; simp at this))))
      go_wp2
      have hbel : Below w.heap.size w wb := (Below.trans ((Below.drewN HB.out kc).drew) (hba.mono (by first | (simp; done) | (simp; omega) | omega))).trans (hbb.mono (by omega))
      have hlim := (HLA.out.below hbb (Nat.le_refl _) (Nat.le_refl _)).mono hbb.size
      have hk3b : Bk wb (w.heap.size + 1 + 1) 24 #[.bool false, .slice none 0 0] := (hbb.block _ oa3).trans ((hba.block _ o3).trans HK3.out)
      have hlim2 := hlim.past hk3b (.bool (t2 && decide (0 < qa))) (.slice Aa qa ca)
      refine bodyPost_ret (v := .agg #[.bool (t2 && decide (0 < qa)), .slice Aa qa ca]) (by simp [results, Tryz.results14, go_sem, p4', p5']) rfl ⟨(hbel.setCell (by simp; omega) _).setCell (by simp; omega) _, _, rfl, mkInt (hlim2.mono (by simp)) hna (by rw [HVA.out, ← Z1.out, ← Z2.out]; exact sum_lt ht (Nat.le_of_lt HLT.out))⟩
    · have hc : decide (cmpN (val (l1.take m1)) (val (l2.take m2)) < 0) = false := by
       rcases Nat.eq_or_lt_of_le hge with h | h
       · rw [h, cmpN_self]; rfl
       · rw [cmpN_gt h]; rfl
      have hc2 : (0 : Int) ≤ cmpN (val (l1.take m1)) (val (l2.take m2)) := by simpa using hc
      have hadd := subtractLimbs_any A1 A2 m1 c1 m2 c2 _ _ (wc.drewN kc).drew (L1.drewN kc).drew (L2.drewN kc).drew hge hn2 (by omega)
      have HADD := Lib.hid hadd
      have HGE := Lib.hid hge
      generalize cmpN (val (l1.take m1)) (val (l2.take m2)) = C at hc hc2
      clear hadd hge hc
      go_wp2_with fail
      go_region_held3 (fun w' => w'.cell? ⟨w.heap.size, 0, none⟩ = some (.bool t1) ∧ w'.cell? ⟨w.heap.size, 1, none⟩ = some (.slice A1 m1 c1) ∧ w'.cell? ⟨w.heap.size + 1, 0, none⟩ = some (.bool t2) ∧ w'.cell? ⟨w.heap.size + 1, 1, none⟩ = some (.slice A2 m2 c2)) (go_keep)
       (first
         | (go_at_call 62; refine HADD.out.mono ?_; rintro e wa ⟨hba, Aa, qa, ca, la, rfl, hla, hna, hva⟩; obtain ⟨hca, hfa⟩ := bcell hba; have hza : wc.heap.size ≤ wa.heap.size := hba.size; have oa1 : w.heap.size < wa.heap.size := (by omega); have oa2 : w.heap.size + 1 < wa.heap.size := (by omega); have oa3 : w.heap.size + 2 < wa.heap.size := (by omega); have q1 := (hca _ 0 o1).trans e10; have q2 := (hca _ 1 o1).trans e11; have q3 := (hca _ 0 o2).trans e20; have q8 := (hca _ 1 o2).trans e21; have q4 := (hca _ 0 o3).trans e30; have q5 := (hca _ 1 o3).trans e31; have q6 := (hfa _ 0 o3).trans f30; have q7 := (hfa _ 1 o3).trans f31; have HLA := Lib.hid hla; have HVA := Lib.hid hva; clear hla hva)
         | (go_at_call 57; refine (signed_any _ _ _ _ _).mono ?_; rintro e wb ⟨rfl, hbb⟩; obtain ⟨hcb, hfb⟩ := bcell hbb; have hzb := hbb.size; have p1' := (hcb _ 0 oa1).trans q1; have p2' := (hcb _ 1 oa1).trans q2; have p3' := (hcb _ 0 oa2).trans q3; have p8' := (hcb _ 1 oa2).trans q8; have p4' := (hcb _ 0 oa3).trans q4; have p5' := (hcb _ 1 oa3).trans q5; have p6' := (hfb _ 0 oa3).trans q6; have p7' := (hfb _ 1 oa3).trans q7; have hcx : ∀ (W : World) (o j : Nat) (u : Value), (W.setCell ⟨w.heap.size + 1 + 1, o, none⟩ u).cell? ⟨w.heap.size, j, none⟩ = W.cell? ⟨w.heap.size, j, none⟩ := (fun W o j u => World.cell?_setCell_other W _ _ u (fun e => by have := congrArg Addr.block e; simp at this; omega)); have hcy : ∀ (W : World) (o j : Nat) (u : Value), (W.setCell ⟨w.heap.size + 1 + 1, o, none⟩ u).cell? ⟨w.heap.size + 1, j, none⟩ = W.cell? ⟨w.heap.size + 1, j, none⟩ := (fun W o j u => World.cell?_setCell_other W _ _ u (fun e => by have := congrArg Addr.block e; simp at this))))
      go_wp2
      have hbel : Below w.heap.size w wb := (Below.trans ((Below.drewN HB.out kc).drew) (hba.mono (by first | (simp; done) | (simp; omega) | omega))).trans (hbb.mono (by omega))
      have hlim := (HLA.out.below hbb (Nat.le_refl _) (Nat.le_refl _)).mono hbb.size
      have hk3b : Bk wb (w.heap.size + 1 + 1) 24 #[.bool false, .slice none 0 0] := (hbb.block _ oa3).trans ((hba.block _ o3).trans HK3.out)
      have hlim2 := hlim.past hk3b (.bool (t1 && decide (0 < qa))) (.slice Aa qa ca)
      refine bodyPost_ret (v := .agg #[.bool (t1 && decide (0 < qa)), .slice Aa qa ca]) (by simp [results, Tryz.results14, go_sem, p4', p5']) rfl ⟨(hbel.setCell (by simp; omega) _).setCell (by simp; omega) _, _, rfl, mkInt (hlim2.mono (by simp)) hna (by rw [HVA.out, ← Z1.out, ← Z2.out]; exact sum_ge ht HGE.out)⟩
end Go.Proofs.YthlfhfkfjefidaaGreat
/- The walk of Of. -/
namespace Go.Proofs.YthlfhfkfjefidaaGreat
open Go.RowKit
set_option maxHeartbeats 2000000 in
theorem of_nonneg (x : Nat) (w : World) (hx : x ≤ 9223372036854775807) :
 Calls Tryz.prog 12 #[.int .i64 (x : Int)] w (IntR (x : Int) w) := by
 have hd : decide ((x : Int) < 0) = false := by simp
 go_enter Tryz.func12, Tryz.ntmps12
 go_wp2_with fail
 refine (limbsOf_any x _ (by omega)).mono ?_
 rintro e w1 ⟨hb1, A, q, c, l, rfl, hl, hn, hv⟩
 have HL := Lib.hid hl
 have HV := Lib.hid hv
 clear hl hv
 go_wp2_with fail
 refine (signed_any _ _ _ _ _).mono ?_
 rintro e w2 ⟨rfl, hb2⟩
 have hz1 : w.heap.size + 1 ≤ w1.heap.size := by have := hb1.size; simpa using this
 have k2 : Bk w2 w.heap.size 24 #[.bool false, .slice none 0 0] := (hb2.block _ (by omega)).trans ((hb1.block _ (by simp)).trans (Bk.alloc_ _ _ _))
 have e0 : w2.cell? ⟨w.heap.size, 0, none⟩ = some (.bool false) := by simpa using k2.cell 0
 have e1 : w2.cell? ⟨w.heap.size, 1, none⟩ = some (.slice none 0 0) := by simpa using k2.cell 1
 have f0 := k2.frozen 0
 have f1 := k2.frozen 1
 have hbel : Below w.heap.size w w2 := (((Below.refl _ _).alloc (Nat.le_refl _) _).trans (hb1.mono (by simp))).trans (hb2.mono (by omega))
 have hlim := ((HL.out.below hb2 (Nat.le_refl _) (Nat.le_refl _)).mono hb2.size).past k2 (.bool (false && decide (0 < q))) (.slice A q c)
 have HLIM := Lib.hid hlim
 clear hlim k2
 go_wp2
 refine bodyPost_ret (v := .agg #[.bool (false && decide (0 < q)), .slice A q c]) (by simp [results, Tryz.results12, go_sem, e0, e1]) rfl ⟨(hbel.setCell (Nat.le_refl _) _).setCell (Nat.le_refl _) _, _, rfl, mkInt (HLIM.out.mono (by simp)) hn (by rw [HV.out]; rfl)⟩
set_option maxHeartbeats 2000000 in
theorem of_neg (x : Nat) (w : World) (h0 : 0 < x) (hx : x ≤ 9223372036854775808) :
 Calls Tryz.prog 12 #[.int .i64 (-(x : Int))] w (IntR (-(x : Int)) w) := by
 have hd : decide (-(x : Int) < 0) = true := by simp; omega
 go_enter Tryz.func12, Tryz.ntmps12
 have hw : IntKind.u64.wrap (-IntKind.u64.wrap (-(x : Int))) = (x : Int) := by rw [IntKind.wrap_u64, IntKind.wrap_u64]; omega
 go_wp2_with fail
 refine (limbsOf_any x _ (by omega)).mono ?_
 rintro e w1 ⟨hb1, A, q, c, l, rfl, hl, hn, hv⟩
 have HL := Lib.hid hl
 have HV := Lib.hid hv
 clear hl hv
 go_wp2_with fail
 refine (signed_any _ _ _ _ _).mono ?_
 rintro e w2 ⟨rfl, hb2⟩
 have hz1 : w.heap.size + 1 ≤ w1.heap.size := by have := hb1.size; simpa using this
 have k2 : Bk w2 w.heap.size 24 #[.bool false, .slice none 0 0] := (hb2.block _ (by omega)).trans ((hb1.block _ (by simp)).trans (Bk.alloc_ _ _ _))
 have e0 : w2.cell? ⟨w.heap.size, 0, none⟩ = some (.bool false) := by simpa using k2.cell 0
 have e1 : w2.cell? ⟨w.heap.size, 1, none⟩ = some (.slice none 0 0) := by simpa using k2.cell 1
 have f0 := k2.frozen 0
 have f1 := k2.frozen 1
 have hbel : Below w.heap.size w w2 := (((Below.refl _ _).alloc (Nat.le_refl _) _).trans (hb1.mono (by simp))).trans (hb2.mono (by omega))
 have hlim := ((HL.out.below hb2 (Nat.le_refl _) (Nat.le_refl _)).mono hb2.size).past k2 (.bool (true && decide (0 < q))) (.slice A q c)
 have HLIM := Lib.hid hlim
 clear hlim k2
 go_wp2
 refine bodyPost_ret (v := .agg #[.bool (true && decide (0 < q)), .slice A q c]) (by simp [results, Tryz.results12, go_sem, e0, e1]) rfl ⟨(hbel.setCell (Nat.le_refl _) _).setCell (Nat.le_refl _) _, _, rfl, mkInt (HLIM.out.mono (by simp)) hn (by rw [HV.out]; rfl)⟩
theorem of_any (n : Int) (w : World) (h1 : -9223372036854775808 ≤ n) (h2 : n ≤ 9223372036854775807) : Calls Tryz.prog 12 #[.int .i64 n] w (IntR n w) := by
 rcases Int.lt_or_le n 0 with h | h
 · obtain ⟨x, rfl⟩ : ∃ x : Nat, n = -(x : Int) := ⟨(-n).toNat, by omega⟩
   exact of_neg x w (by omega) (by omega)
 · obtain ⟨x, rfl⟩ : ∃ x : Nat, n = (x : Int) := ⟨n.toNat, by omega⟩
   exact of_nonneg x w (by omega)
end Go.Proofs.YthlfhfkfjefidaaGreat
/- The walk of multiplyLimbs: the product of two numbers, in new memory. -/
namespace Go.Proofs.YthlfhfkfjefidaaGreat
open Go.RowKit
theorem mul_round {O P : List Nat} {k m x r V Bv : Nat} (hO : k + m < O.length) (hP : P.length = m) (hv : val (O.take (k + m)) = V * Bv) (h : val P + W m * r = val ((O.drop k).take m) + x * Bv) :
 val (((O.take k ++ P ++ O.drop (k + m)).set (k + m) r).take (k + 1 + m)) = (V + W k * x) * Bv := by
 have hl : (O.take k).length = k := by rw [List.length_take]; omega
 have hlen : (O.take k ++ P ++ O.drop (k + m)).length = O.length := by simp [hP]; omega
 rw [show k + 1 + m = (k + m) + 1 from by omega, val_set_take _ r (by rw [hlen]; exact hO)]
 have e : (O.take k ++ P ++ O.drop (k + m)).take (k + m) = O.take k ++ P := by
  rw [List.take_append_of_le_length (by rw [List.length_append, hl, hP]; exact Nat.le_refl _), List.take_of_length_le (by rw [List.length_append, hl, hP]; exact Nat.le_refl _)]
 have h0 : val (O.take (k + m)) = val (O.take k) + W k * val ((O.drop k).take m) := by
  rw [val_take_drop (O.take (k + m)) k (by rw [List.length_take]; omega), List.take_take, Nat.min_eq_left (by omega), List.drop_take, Nat.add_sub_cancel_left]
 rw [e, val_append, hl, W_add, Nat.mul_assoc, Nat.add_assoc, ← Nat.mul_add, h, Nat.mul_add, ← Nat.add_assoc, ← h0, hv, Nat.add_mul, Nat.mul_assoc (W k)]
set_option maxHeartbeats 1000000 in
theorem multiplyLimbs_any (A A2 : Option Addr) (n c m d : Nat) (a b : List Nat) (w : World) (ha : Lim w w.heap.size A n c a) (hb : Lim w w.heap.size A2 m d b) (hn : n ≤ 536870912) (hm : m ≤ 536870912) :
 Calls Tryz.prog 66 #[.slice A n c, .slice A2 m d] w (NatR (val a * val b) w) := by
 have hcap := ha.cap
 have hcap2 := hb.cap
 have hla := Lib.hid ha.len
 have hlb := Lib.hid hb.len
 obtain ⟨i0, hi0, hz0, hz1, hz2⟩ := info_parts info_u32
 have hmk := fun W => make_u32 (P := Tryz.prog) Tryz.underlying22 hi0 hz0 hz1 hz2 (n + m) ((n : Int) + (m : Int)) (by omega) (by omega) W
 clear hi0 hz0 hz1 hz2
 rcases Nat.eq_zero_or_pos n with h0 | h0
 · have hd : ((n : Int) == 0) = true := by simp [h0]
   have HV : Hid (val a * val b = 0) := by
    have : a = [] := List.eq_nil_of_length_eq_zero (by rw [hla.out, h0])
    rw [this, val_nil, Nat.zero_mul]; rfl
   clear ha hb
   go_enter Tryz.func66, Tryz.ntmps66
   go_wp2
   go_ret
   exact ⟨Below.refl _ _, none, 0, 0, [], rfl, Lim.nil_ _ _, norm_nil, HV.out.symm⟩
 · have hd : ((n : Int) == 0) = false := by simp; omega
   rcases Nat.eq_zero_or_pos m with h1 | h1
   · have hd2 : ((m : Int) == 0) = true := by simp [h1]
     have HV : Hid (val a * val b = 0) := by
      have : b = [] := List.eq_nil_of_length_eq_zero (by rw [hlb.out, h1])
      rw [this, val_nil, Nat.mul_zero]; rfl
     clear ha hb
     go_enter Tryz.func66, Tryz.ntmps66
     go_wp2
     go_ret
     exact ⟨Below.refl _ _, none, 0, 0, [], rfl, Lim.nil_ _ _, norm_nil, HV.out.symm⟩
   · have hd2 : ((m : Int) == 0) = false := by simp; omega
     go_enter Tryz.func66, Tryz.ntmps66
     go_wp2
     go_loopw [24] (fun iv wr => ∃ (k : Nat) (O : List Nat), k ≤ n ∧ iv = .int .i64 (k : Int) ∧ Buf wr w.heap.size 81 O ∧ Hid (O.length = n + m) ∧ Hid (val (O.take (k + m)) = val (a.take k) * val b) ∧ Below w.heap.size w wr)
      (fun iv _ => n - (intOf iv).toNat)
     case atStart =>
      refine ⟨0, List.replicate (n + m) 0, by omega, rfl, ⟨Bk.alloc_ _ _ _, Bd.replicate _⟩, List.length_replicate, ?_, (Below.refl _ _).alloc (Nat.le_refl _) _⟩
      show val ((List.replicate (n + m) 0).take (0 + m)) = val (a.take 0) * val b
      rw [List.take_replicate, val_replicate, List.take_zero, val_nil, Nat.zero_mul]
     case round =>
      obtain ⟨k, O, hk, rfl, hO, hOl, hval, hB⟩ := hrel
      by_cases hlt : k < n
      · obtain ⟨b1, o1, x, rfl, hb1, hx, hxb, hc1⟩ := (ha.below hB (Nat.le_refl _) (Nat.le_refl _)).at_ (k := k) hlt
        have hbl := hb.below hB (Nat.le_refl _) (Nat.le_refl _)
        have HB := Lib.hid hbl
        have HX := Lib.hid hx
        clear hx hbl
        go_wp2_with (go_at_call 105; refine (addTimes_any w.heap.size k _ m d x A2 O b _ hO (by rw [hOl.out]; omega) HB.out hxb (by omega) (by omega)).mono ?_; rintro e w' ⟨r, P, rfl, hr, hP, hO2, hv2, hon⟩; have hP' := Lib.hid hP; have hv' := Lib.hid hv2; clear hP hv2; obtain ⟨z, hz, hc3⟩ := hO2.cell (k := k + m) (by simp [hP'.out, hOl.out]; omega); have hf3 := hO2.frozen (k + m); clear hz)
        go_roundw
        case rel =>
         refine ⟨k + 1, (O.take k ++ P ++ O.drop (k + m)).set (k + m) r, by omega, by go_num, hO2.set_ _ _ hr, ?_, ?_, (hB.trans (hon.below (Nat.le_refl _))).setCell (by simp) _⟩
         · show _ = n + m
           rw [List.length_set]; simp [hP'.out, hOl.out]; omega
         · show _ = val (a.take (k + 1)) * val b
           rw [val_take_get a HX.out]
           exact mul_round (by rw [hOl.out]; omega) hP'.out hval.out hv'.out
        case measure => simp [intOf]; omega
      · obtain rfl : k = n := by omega
        have hlim : Lim wr wr.heap.size (some ⟨w.heap.size, 0, none⟩) (k + m) (k + m) (O.take (k + m)) := hO.lim hO.lt (by omega) (by omega) (by rw [hOl.out]; exact Nat.le_refl _)
        have HL := Lib.hid hlim
        have HV : Hid (val (O.take (k + m)) = val a * val b) := by
         have := hval.out
         rwa [val_take_all hla.out] at this
        clear hlim hval
        go_wp2_with (go_at_call 97; refine (trim_any _ _ _ _ _ _ HL.out).mono ?_; rintro e w' ⟨rfl, q, rfl, hq, hv, hn2⟩)
        go_ret
        exact ⟨hB, _, q, _, _, rfl, HL.out.take hq, hn2, hv.trans HV.out⟩
end Go.Proofs.YthlfhfkfjefidaaGreat
/- The walk of Prod. -/
namespace Go.Proofs.YthlfhfkfjefidaaGreat
open Go.RowKit
theorem prod_sg (a b : Bool) (x y : Nat) : sg a x * sg b y = sg (a != b) (x * y) := by cases a <;> cases b <;> simp [sg, Int.mul_neg, Int.neg_mul]
set_option maxRecDepth 100000 in
set_option maxHeartbeats 16000000 in
theorem prod_any (s1 s2 : Bool) (A1 A2 : Option Addr) (n1 c1 n2 c2 : Nat) (l1 l2 : List Nat) (w : World) (h1 : Lim w w.heap.size A1 n1 c1 l1) (h2 : Lim w w.heap.size A2 n2 c2 l2) (b1 : n1 ≤ 536870912) (b2 : n2 ≤ 536870912) :
 Calls Tryz.prog 18 #[.agg #[.bool s1, .slice A1 n1 c1], .agg #[.bool s2, .slice A2 n2 c2]] w (IntR (sg s1 (val l1) * sg s2 (val l2)) w) := by
 have H1 : Hid (∀ w', Below w.heap.size w w' → Lim w' w'.heap.size A1 n1 c1 l1) := fun w' hb => h1.below hb (Nat.le_refl _) hb.size
 have H2 : Hid (∀ w', Below w.heap.size w w' → Lim w' w'.heap.size A2 n2 c2 l2) := fun w' hb => h2.below hb (Nat.le_refl _) hb.size
 have HN1 := Lib.hid h1.len
 have HN2 := Lib.hid h2.len
 clear h1 h2
 go_enter Tryz.func18, Tryz.ntmps18
 go_upto_region 1 with fail
 go_cut [] (fun wx => ReadTwo (((w.alloc (.cells #[.bool s1, .slice A1 n1 c1] 24)).alloc (.cells #[.bool s2, .slice A2 n2 c2] 24)).alloc (.cells #[.bool false, .slice none 0 0] 24)) w.heap.size (w.heap.size + 1) s1 s2 A1 A2 n1 c1 n2 c2 l1 l2 wx)
 case first =>
  go_region_with (first
   | (go_at_call_of 53 (Value.agg #[.bool s1, .slice A1 n1 c1]); refine (read_any s1 A1 n1 c1 l1 _ (H1.out _ (by repeat (first | exact Below.refl _ _ | assumption | refine Below.drew ?_ | refine Below.drewN ?_ _ | refine Below.alloc ?_ (by simp <;> omega) _ | refine Below.setCell ?_ (by simp <;> omega) _)))).mono ?_; rintro e wa ⟨hba, sa, ma, rfl, hma, hva, hna, rfl⟩; obtain ⟨hca, hfa⟩ := bcell hba; have hza := hba.size; (try simp at hza); have hBa : Below w.heap.size w wa := Below.trans (by repeat (first | exact Below.refl _ _ | assumption | refine Below.drew ?_ | refine Below.drewN ?_ _ | refine Below.alloc ?_ (by simp <;> omega) _ | refine Below.setCell ?_ (by simp <;> omega) _)) (hba.mono (by first | (simp; omega) | omega)); have oaa : w.heap.size < wa.heap.size := (by omega); have oba : w.heap.size + 1 < wa.heap.size := (by omega))
   | (go_at_call_of 53 (Value.agg #[.bool s2, .slice A2 n2 c2]); refine (read_any s2 A2 n2 c2 l2 _ (H2.out _ (by repeat (first | exact Below.refl _ _ | assumption | refine Below.drew ?_ | refine Below.drewN ?_ _ | refine Below.alloc ?_ (by simp <;> omega) _ | refine Below.setCell ?_ (by simp <;> omega) _)))).mono ?_; rintro e wb ⟨hbb, sb, mb, rfl, hmb, hvb, hnb, rfl⟩; obtain ⟨hcb, hfb⟩ := bcell hbb; have hzb := hbb.size; (try simp at hzb); have hBb : Below w.heap.size w wb := Below.trans (by repeat (first | exact Below.refl _ _ | assumption | refine Below.drew ?_ | refine Below.drewN ?_ _ | refine Below.alloc ?_ (by simp <;> omega) _ | refine Below.setCell ?_ (by simp <;> omega) _)) (hbb.mono (by first | (simp; omega) | omega)); have oab : w.heap.size < wb.heap.size := (by omega); have obb : w.heap.size + 1 < wb.heap.size := (by omega)))
  all_goals
   have b1 : Bk wb w.heap.size 24 #[.bool s1, .slice A1 n1 c1] := (hbb.block _ oaa).trans ((hba.block _ (by first | (simp; done) | (simp; omega) | omega)).trans (((Bk.alloc_ w 24 #[.bool s1, .slice A1 n1 c1]).alloc _).alloc _))
   have b2 : Bk wb (w.heap.size + 1) 24 #[.bool s2, .slice A2 n2 c2] := (hbb.block _ oba).trans ((hba.block _ (by first | (simp; done) | (simp; omega) | omega)).trans ((alloc2_bk w _ _ _).alloc _))
   have hst := store_two (x := .bool (s1 && decide (0 < ma))) (y := .slice A1 ma c1) (z := .bool (s2 && decide (0 < mb))) (u := .slice A2 mb c2) b1 b2 (by omega)
    (Fr.of_below (S := fun k => k = w.heap.size ∨ k = w.heap.size + 1) (w := (((w.alloc (.cells #[.bool s1, .slice A1 n1 c1] 24)).alloc (.cells #[.bool s2, .slice A2 n2 c2] 24)).alloc (.cells #[.bool false, .slice none 0 0] 24))) ((((Below.refl _ _).drew).trans hba).trans (hbb.mono (by first | (simp; done) | (simp; omega) | omega))))
   have HST := Lib.hid hst
   clear b1 b2 hst hca hcb hfa hfb hza hzb
   go_wp2_with fail
   go_meet
   exact ⟨ma, mb, hma, hva, hna, hmb, hvb, hnb, HST.out⟩
 case rest =>
  obtain ⟨m1, m2, hm1, hv1, hn1, hm2, hv2, hn2, k1, k2, hf⟩ := hcut
  obtain ⟨z1, p1⟩ := sg_read (s := s1) hv1 hn1 (by rw [HN1.out]; exact hm1)
  obtain ⟨z2, p2⟩ := sg_read (s := s2) hv2 hn2 (by rw [HN2.out]; exact hm2)
  generalize (s1 && decide (0 < m1)) = t1 at z1 p1 k1
  generalize (s2 && decide (0 < m2)) = t2 at z2 p2 k2
  have hbw : Below w.heap.size w wc := Below.trans (alloc3_below _ _ _ _) (hf.below (by first | (simp; done) | (simp; omega) | omega) (fun k hk h => by rcases h with h | h <;> omega))
  have L1 := (H1.out wc hbw).take hm1
  have L2 := (H2.out wc hbw).take hm2
  have e10 : wc.cell? ⟨w.heap.size, 0, none⟩ = some (.bool t1) := by simpa using k1.cell 0
  have e11 : wc.cell? ⟨w.heap.size, 1, none⟩ = some (.slice A1 m1 c1) := by simpa using k1.cell 1
  have e20 : wc.cell? ⟨w.heap.size + 1, 0, none⟩ = some (.bool t2) := by simpa using k2.cell 0
  have e21 : wc.cell? ⟨w.heap.size + 1, 1, none⟩ = some (.slice A2 m2 c2) := by simpa using k2.cell 1
  have Z1 := Lib.hid z1
  have Z2 := Lib.hid z2
  have HB := Lib.hid hbw
  have HF := Lib.hid hf
  have KK1 := Lib.hid k1
  have KK2 := Lib.hid k2
  clear z1 z2 hbw hf k1 k2 hv1 hv2
  have k3 : Bk wc (w.heap.size + 2) 24 #[.bool false, .slice none 0 0] := (HF.out.block (w.heap.size + 2) (by simp) (fun h => by rcases h with h | h <;> omega)).trans (by have h := Bk.alloc_ ((w.alloc (.cells #[.bool s1, .slice A1 n1 c1] 24)).alloc (.cells #[.bool s2, .slice A2 n2 c2] 24)) 24 #[.bool false, .slice none 0 0]; rw [World.size_alloc, World.size_alloc] at h; exact h)
  have o3 := k3.lt
  have o1 : w.heap.size < wc.heap.size := by omega
  have o2 : w.heap.size + 1 < wc.heap.size := by omega
  have e30 : wc.cell? ⟨w.heap.size + 2, 0, none⟩ = some (.bool false) := by simpa using k3.cell 0
  have e31 : wc.cell? ⟨w.heap.size + 2, 1, none⟩ = some (.slice none 0 0) := by simpa using k3.cell 1
  have f30 := k3.frozen 0
  have f31 := k3.frozen 1
  have HK3 := Lib.hid k3
  clear k3 p1 p2
  have hadd := multiplyLimbs_any A1 A2 m1 c1 m2 c2 _ _ wc.drew L1.drew L2.drew (by omega) (by omega)
  have HADD := Lib.hid hadd
  clear hadd L1 L2
  cases t1 <;> cases t2
  · go_wp2_with fail
    go_region_held3 (fun w' => w'.cell? ⟨w.heap.size, 0, none⟩ = some (.bool false) ∧ w'.cell? ⟨w.heap.size, 1, none⟩ = some (.slice A1 m1 c1) ∧ w'.cell? ⟨w.heap.size + 1, 0, none⟩ = some (.bool false) ∧ w'.cell? ⟨w.heap.size + 1, 1, none⟩ = some (.slice A2 m2 c2)) (go_keep)
     (first
       | (go_at_call 66; refine HADD.out.mono ?_; rintro e wa ⟨hba, Aa, qa, ca, la, rfl, hla, hna, hva⟩; obtain ⟨hca, hfa⟩ := bcell hba; have hza : wc.heap.size ≤ wa.heap.size := hba.size; have oa1 : w.heap.size < wa.heap.size := (by omega); have oa2 : w.heap.size + 1 < wa.heap.size := (by omega); have oa3 : w.heap.size + 2 < wa.heap.size := (by omega); have q1 := (hca _ 0 o1).trans e10; have q2 := (hca _ 1 o1).trans e11; have q3 := (hca _ 0 o2).trans e20; have q8 := (hca _ 1 o2).trans e21; have q4 := (hca _ 0 o3).trans e30; have q5 := (hca _ 1 o3).trans e31; have q6 := (hfa _ 0 o3).trans f30; have q7 := (hfa _ 1 o3).trans f31; have HLA := Lib.hid hla; have HVA := Lib.hid hva; clear hla hva)
       | (go_at_call 57; refine (signed_any _ _ _ _ _).mono ?_; rintro e wb ⟨rfl, hbb⟩; obtain ⟨hcb, hfb⟩ := bcell hbb; have hzb := hbb.size; have p1' := (hcb _ 0 oa1).trans q1; have p2' := (hcb _ 1 oa1).trans q2; have p3' := (hcb _ 0 oa2).trans q3; have p8' := (hcb _ 1 oa2).trans q8; have p4' := (hcb _ 0 oa3).trans q4; have p5' := (hcb _ 1 oa3).trans q5; have p6' := (hfb _ 0 oa3).trans q6; have p7' := (hfb _ 1 oa3).trans q7; have hcx : ∀ (W : World) (o j : Nat) (u : Value), (W.setCell ⟨w.heap.size + 1 + 1, o, none⟩ u).cell? ⟨w.heap.size, j, none⟩ = W.cell? ⟨w.heap.size, j, none⟩ := (fun W o j u => World.cell?_setCell_other W _ _ u (fun e => by have := congrArg Addr.block e; simp at this; omega)); have hcy : ∀ (W : World) (o j : Nat) (u : Value), (W.setCell ⟨w.heap.size + 1 + 1, o, none⟩ u).cell? ⟨w.heap.size + 1, j, none⟩ = W.cell? ⟨w.heap.size + 1, j, none⟩ := (fun W o j u => World.cell?_setCell_other W _ _ u (fun e => by have := congrArg Addr.block e; simp at this))))
    go_wp2
    have hbel : Below w.heap.size w wb := (Below.trans (HB.out.drew) (hba.mono (by first | (simp; done) | (simp; omega) | omega))).trans (hbb.mono (by omega))
    have hlim := (HLA.out.below hbb (Nat.le_refl _) (Nat.le_refl _)).mono hbb.size
    have hk3b : Bk wb (w.heap.size + 1 + 1) 24 #[.bool false, .slice none 0 0] := (hbb.block _ oa3).trans ((hba.block _ o3).trans HK3.out)
    have hlim2 := hlim.past hk3b (.bool (false && decide (0 < qa))) (.slice Aa qa ca)
    refine bodyPost_ret (v := .agg #[.bool (false && decide (0 < qa)), .slice Aa qa ca]) (by simp [results, Tryz.results18, go_sem, p4', p5']) rfl ⟨(hbel.setCell (by simp; omega) _).setCell (by simp; omega) _, _, rfl, mkInt (hlim2.mono (by simp)) hna (by rw [HVA.out, ← Z1.out, ← Z2.out]; exact prod_sg _ _ _ _)⟩
  · go_wp2_with fail
    go_region_held3 (fun w' => w'.cell? ⟨w.heap.size, 0, none⟩ = some (.bool false) ∧ w'.cell? ⟨w.heap.size, 1, none⟩ = some (.slice A1 m1 c1) ∧ w'.cell? ⟨w.heap.size + 1, 0, none⟩ = some (.bool true) ∧ w'.cell? ⟨w.heap.size + 1, 1, none⟩ = some (.slice A2 m2 c2)) (go_keep)
     (first
       | (go_at_call 66; refine HADD.out.mono ?_; rintro e wa ⟨hba, Aa, qa, ca, la, rfl, hla, hna, hva⟩; obtain ⟨hca, hfa⟩ := bcell hba; have hza : wc.heap.size ≤ wa.heap.size := hba.size; have oa1 : w.heap.size < wa.heap.size := (by omega); have oa2 : w.heap.size + 1 < wa.heap.size := (by omega); have oa3 : w.heap.size + 2 < wa.heap.size := (by omega); have q1 := (hca _ 0 o1).trans e10; have q2 := (hca _ 1 o1).trans e11; have q3 := (hca _ 0 o2).trans e20; have q8 := (hca _ 1 o2).trans e21; have q4 := (hca _ 0 o3).trans e30; have q5 := (hca _ 1 o3).trans e31; have q6 := (hfa _ 0 o3).trans f30; have q7 := (hfa _ 1 o3).trans f31; have HLA := Lib.hid hla; have HVA := Lib.hid hva; clear hla hva)
       | (go_at_call 57; refine (signed_any _ _ _ _ _).mono ?_; rintro e wb ⟨rfl, hbb⟩; obtain ⟨hcb, hfb⟩ := bcell hbb; have hzb := hbb.size; have p1' := (hcb _ 0 oa1).trans q1; have p2' := (hcb _ 1 oa1).trans q2; have p3' := (hcb _ 0 oa2).trans q3; have p8' := (hcb _ 1 oa2).trans q8; have p4' := (hcb _ 0 oa3).trans q4; have p5' := (hcb _ 1 oa3).trans q5; have p6' := (hfb _ 0 oa3).trans q6; have p7' := (hfb _ 1 oa3).trans q7; have hcx : ∀ (W : World) (o j : Nat) (u : Value), (W.setCell ⟨w.heap.size + 1 + 1, o, none⟩ u).cell? ⟨w.heap.size, j, none⟩ = W.cell? ⟨w.heap.size, j, none⟩ := (fun W o j u => World.cell?_setCell_other W _ _ u (fun e => by have := congrArg Addr.block e; simp at this; omega)); have hcy : ∀ (W : World) (o j : Nat) (u : Value), (W.setCell ⟨w.heap.size + 1 + 1, o, none⟩ u).cell? ⟨w.heap.size + 1, j, none⟩ = W.cell? ⟨w.heap.size + 1, j, none⟩ := (fun W o j u => World.cell?_setCell_other W _ _ u (fun e => by have := congrArg Addr.block e; simp at this))))
    go_wp2
    have hbel : Below w.heap.size w wb := (Below.trans (HB.out.drew) (hba.mono (by first | (simp; done) | (simp; omega) | omega))).trans (hbb.mono (by omega))
    have hlim := (HLA.out.below hbb (Nat.le_refl _) (Nat.le_refl _)).mono hbb.size
    have hk3b : Bk wb (w.heap.size + 1 + 1) 24 #[.bool false, .slice none 0 0] := (hbb.block _ oa3).trans ((hba.block _ o3).trans HK3.out)
    have hlim2 := hlim.past hk3b (.bool (true && decide (0 < qa))) (.slice Aa qa ca)
    refine bodyPost_ret (v := .agg #[.bool (true && decide (0 < qa)), .slice Aa qa ca]) (by simp [results, Tryz.results18, go_sem, p4', p5']) rfl ⟨(hbel.setCell (by simp; omega) _).setCell (by simp; omega) _, _, rfl, mkInt (hlim2.mono (by simp)) hna (by rw [HVA.out, ← Z1.out, ← Z2.out]; exact prod_sg _ _ _ _)⟩
  · go_wp2_with fail
    go_region_held3 (fun w' => w'.cell? ⟨w.heap.size, 0, none⟩ = some (.bool true) ∧ w'.cell? ⟨w.heap.size, 1, none⟩ = some (.slice A1 m1 c1) ∧ w'.cell? ⟨w.heap.size + 1, 0, none⟩ = some (.bool false) ∧ w'.cell? ⟨w.heap.size + 1, 1, none⟩ = some (.slice A2 m2 c2)) (go_keep)
     (first
       | (go_at_call 66; refine HADD.out.mono ?_; rintro e wa ⟨hba, Aa, qa, ca, la, rfl, hla, hna, hva⟩; obtain ⟨hca, hfa⟩ := bcell hba; have hza : wc.heap.size ≤ wa.heap.size := hba.size; have oa1 : w.heap.size < wa.heap.size := (by omega); have oa2 : w.heap.size + 1 < wa.heap.size := (by omega); have oa3 : w.heap.size + 2 < wa.heap.size := (by omega); have q1 := (hca _ 0 o1).trans e10; have q2 := (hca _ 1 o1).trans e11; have q3 := (hca _ 0 o2).trans e20; have q8 := (hca _ 1 o2).trans e21; have q4 := (hca _ 0 o3).trans e30; have q5 := (hca _ 1 o3).trans e31; have q6 := (hfa _ 0 o3).trans f30; have q7 := (hfa _ 1 o3).trans f31; have HLA := Lib.hid hla; have HVA := Lib.hid hva; clear hla hva)
       | (go_at_call 57; refine (signed_any _ _ _ _ _).mono ?_; rintro e wb ⟨rfl, hbb⟩; obtain ⟨hcb, hfb⟩ := bcell hbb; have hzb := hbb.size; have p1' := (hcb _ 0 oa1).trans q1; have p2' := (hcb _ 1 oa1).trans q2; have p3' := (hcb _ 0 oa2).trans q3; have p8' := (hcb _ 1 oa2).trans q8; have p4' := (hcb _ 0 oa3).trans q4; have p5' := (hcb _ 1 oa3).trans q5; have p6' := (hfb _ 0 oa3).trans q6; have p7' := (hfb _ 1 oa3).trans q7; have hcx : ∀ (W : World) (o j : Nat) (u : Value), (W.setCell ⟨w.heap.size + 1 + 1, o, none⟩ u).cell? ⟨w.heap.size, j, none⟩ = W.cell? ⟨w.heap.size, j, none⟩ := (fun W o j u => World.cell?_setCell_other W _ _ u (fun e => by have := congrArg Addr.block e; simp at this; omega)); have hcy : ∀ (W : World) (o j : Nat) (u : Value), (W.setCell ⟨w.heap.size + 1 + 1, o, none⟩ u).cell? ⟨w.heap.size + 1, j, none⟩ = W.cell? ⟨w.heap.size + 1, j, none⟩ := (fun W o j u => World.cell?_setCell_other W _ _ u (fun e => by have := congrArg Addr.block e; simp at this))))
    go_wp2
    have hbel : Below w.heap.size w wb := (Below.trans (HB.out.drew) (hba.mono (by first | (simp; done) | (simp; omega) | omega))).trans (hbb.mono (by omega))
    have hlim := (HLA.out.below hbb (Nat.le_refl _) (Nat.le_refl _)).mono hbb.size
    have hk3b : Bk wb (w.heap.size + 1 + 1) 24 #[.bool false, .slice none 0 0] := (hbb.block _ oa3).trans ((hba.block _ o3).trans HK3.out)
    have hlim2 := hlim.past hk3b (.bool (true && decide (0 < qa))) (.slice Aa qa ca)
    refine bodyPost_ret (v := .agg #[.bool (true && decide (0 < qa)), .slice Aa qa ca]) (by simp [results, Tryz.results18, go_sem, p4', p5']) rfl ⟨(hbel.setCell (by simp; omega) _).setCell (by simp; omega) _, _, rfl, mkInt (hlim2.mono (by simp)) hna (by rw [HVA.out, ← Z1.out, ← Z2.out]; exact prod_sg _ _ _ _)⟩
  · go_wp2_with fail
    go_region_held3 (fun w' => w'.cell? ⟨w.heap.size, 0, none⟩ = some (.bool true) ∧ w'.cell? ⟨w.heap.size, 1, none⟩ = some (.slice A1 m1 c1) ∧ w'.cell? ⟨w.heap.size + 1, 0, none⟩ = some (.bool true) ∧ w'.cell? ⟨w.heap.size + 1, 1, none⟩ = some (.slice A2 m2 c2)) (go_keep)
     (first
       | (go_at_call 66; refine HADD.out.mono ?_; rintro e wa ⟨hba, Aa, qa, ca, la, rfl, hla, hna, hva⟩; obtain ⟨hca, hfa⟩ := bcell hba; have hza : wc.heap.size ≤ wa.heap.size := hba.size; have oa1 : w.heap.size < wa.heap.size := (by omega); have oa2 : w.heap.size + 1 < wa.heap.size := (by omega); have oa3 : w.heap.size + 2 < wa.heap.size := (by omega); have q1 := (hca _ 0 o1).trans e10; have q2 := (hca _ 1 o1).trans e11; have q3 := (hca _ 0 o2).trans e20; have q8 := (hca _ 1 o2).trans e21; have q4 := (hca _ 0 o3).trans e30; have q5 := (hca _ 1 o3).trans e31; have q6 := (hfa _ 0 o3).trans f30; have q7 := (hfa _ 1 o3).trans f31; have HLA := Lib.hid hla; have HVA := Lib.hid hva; clear hla hva)
       | (go_at_call 57; refine (signed_any _ _ _ _ _).mono ?_; rintro e wb ⟨rfl, hbb⟩; obtain ⟨hcb, hfb⟩ := bcell hbb; have hzb := hbb.size; have p1' := (hcb _ 0 oa1).trans q1; have p2' := (hcb _ 1 oa1).trans q2; have p3' := (hcb _ 0 oa2).trans q3; have p8' := (hcb _ 1 oa2).trans q8; have p4' := (hcb _ 0 oa3).trans q4; have p5' := (hcb _ 1 oa3).trans q5; have p6' := (hfb _ 0 oa3).trans q6; have p7' := (hfb _ 1 oa3).trans q7; have hcx : ∀ (W : World) (o j : Nat) (u : Value), (W.setCell ⟨w.heap.size + 1 + 1, o, none⟩ u).cell? ⟨w.heap.size, j, none⟩ = W.cell? ⟨w.heap.size, j, none⟩ := (fun W o j u => World.cell?_setCell_other W _ _ u (fun e => by have := congrArg Addr.block e; simp at this; omega)); have hcy : ∀ (W : World) (o j : Nat) (u : Value), (W.setCell ⟨w.heap.size + 1 + 1, o, none⟩ u).cell? ⟨w.heap.size + 1, j, none⟩ = W.cell? ⟨w.heap.size + 1, j, none⟩ := (fun W o j u => World.cell?_setCell_other W _ _ u (fun e => by have := congrArg Addr.block e; simp at this))))
    go_wp2
    have hbel : Below w.heap.size w wb := (Below.trans (HB.out.drew) (hba.mono (by first | (simp; done) | (simp; omega) | omega))).trans (hbb.mono (by omega))
    have hlim := (HLA.out.below hbb (Nat.le_refl _) (Nat.le_refl _)).mono hbb.size
    have hk3b : Bk wb (w.heap.size + 1 + 1) 24 #[.bool false, .slice none 0 0] := (hbb.block _ oa3).trans ((hba.block _ o3).trans HK3.out)
    have hlim2 := hlim.past hk3b (.bool (false && decide (0 < qa))) (.slice Aa qa ca)
    refine bodyPost_ret (v := .agg #[.bool (false && decide (0 < qa)), .slice Aa qa ca]) (by simp [results, Tryz.results18, go_sem, p4', p5']) rfl ⟨(hbel.setCell (by simp; omega) _).setCell (by simp; omega) _, _, rfl, mkInt (hlim2.mono (by simp)) hna (by rw [HVA.out, ← Z1.out, ← Z2.out]; exact prod_sg _ _ _ _)⟩
end Go.Proofs.YthlfhfkfjefidaaGreat
/- The walk of Diff. -/
namespace Go.Proofs.YthlfhfkfjefidaaGreat
open Go.RowKit
theorem sg_not (s : Bool) (x : Nat) : sg (!s) x = - sg s x := by cases s <;> simp [sg]
end Go.Proofs.YthlfhfkfjefidaaGreat
/- The walk of Divide. -/
namespace Go.Proofs.YthlfhfkfjefidaaGreat
open Go.RowKit
theorem divide_pos {a b : Nat} (t : Bool) (hb : 0 < b) (h : t = false ∨ a % b = 0) : sg t a / (b : Int) = sg t (a / b) ∧ sg t a % (b : Int) = ((a % b : Nat) : Int) := by
 have hm := Nat.mod_lt a hb
 have hd : ((b : Int) * (a / b : Nat) + (a % b : Nat) : Int) = (a : Int) := by exact_mod_cast Nat.div_add_mod a b
 generalize a / b = q at *
 generalize a % b = r at *
 rcases h with rfl | rfl
 · rw [sg_false, sg_false, Int.ediv_emod_unique (by omega)]
   refine ⟨by omega, by omega, by omega⟩
 · cases t
   · rw [sg_false, sg_false, Int.ediv_emod_unique (by omega)]
     refine ⟨by omega, by omega, by omega⟩
   · rw [sg_true, sg_true, Int.ediv_emod_unique (by omega)]
     refine ⟨by rw [Int.mul_neg]; omega, by omega, by omega⟩
theorem divide_neg {a b : Nat} (hb : 0 < b) (h : a % b ≠ 0) : sg true a / (b : Int) = sg true (a / b + 1) ∧ sg true a % (b : Int) = ((b - a % b : Nat) : Int) := by
 have hm := Nat.mod_lt a hb
 have hd : ((b : Int) * (a / b : Nat) + (a % b : Nat) : Int) = (a : Int) := by exact_mod_cast Nat.div_add_mod a b
 generalize a / b = q at *
 generalize a % b = r at *
 rw [sg_true, sg_true, Int.ediv_emod_unique (by omega)]
 refine ⟨?_, by omega, by omega⟩
 rw [Int.mul_neg, Int.natCast_add, Int.mul_add]
 omega
theorem divide_sg {x : Int} {t u : Bool} {b q : Nat} {r : Int} (h : x / (b : Int) = sg t q ∧ x % (b : Int) = r) : x / sg u b = sg (t != u) q ∧ x % sg u b = r := by
 cases u
 · rw [sg_false, Bool.bne_false]; exact h
 · rw [sg_true, Int.ediv_neg, Int.emod_neg, h.1, h.2]
   refine ⟨?_, rfl⟩
   cases t <;> simp [sg]
def DivideR (x y : Int) (w : World) (e : Ending) (w' : World) : Prop :=
 Below w.heap.size w w' ∧ ∃ u v, ((y = 0 ∧ u = .agg #[.bool false, .slice none 0 0] ∧ v = .agg #[.bool false, .slice none 0 0] ∧ e = .returned (.tuple #[u, v, .int .i64 9])) ∨
  (y ≠ 0 ∧ IntAt w' w'.heap.size u (x / y) ∧ IntAt w' w'.heap.size v (x % y) ∧ e = .returned (.tuple #[u, v, .int .i64 0])))
theorem alloc4_below (w : World) (o p q r : Obj) : Below w.heap.size w ((((w.alloc o).alloc p).alloc q).alloc r) := (alloc3_below w o p q).alloc (by simp; omega) _
set_option maxRecDepth 100000 in
set_option maxHeartbeats 16000000 in
theorem divideInt_any (s1 s2 : Bool) (A1 A2 : Option Addr) (n1 c1 n2 c2 : Nat) (l1 l2 : List Nat) (w : World) (h1 : Lim w w.heap.size A1 n1 c1 l1) (h2 : Lim w w.heap.size A2 n2 c2 l2) (b1 : n1 ≤ 536870912) (b2 : n2 ≤ 536870912) :
 Calls Tryz.prog 20 #[.agg #[.bool s1, .slice A1 n1 c1], .agg #[.bool s2, .slice A2 n2 c2]] w (DivideR (sg s1 (val l1)) (sg s2 (val l2)) w) := by
 have H1 : Hid (∀ w', Below w.heap.size w w' → Lim w' w'.heap.size A1 n1 c1 l1) := fun w' hb => h1.below hb (Nat.le_refl _) hb.size
 have H2 : Hid (∀ w', Below w.heap.size w w' → Lim w' w'.heap.size A2 n2 c2 l2) := fun w' hb => h2.below hb (Nat.le_refl _) hb.size
 have HN1 := Lib.hid h1.len
 have HN2 := Lib.hid h2.len
 clear h1 h2
 go_enter Tryz.func20, Tryz.ntmps20
 go_upto_region 1 with fail
 go_cut [] (fun wx => ReadTwo ((((w.alloc (.cells #[.bool s1, .slice A1 n1 c1] 24)).alloc (.cells #[.bool s2, .slice A2 n2 c2] 24)).alloc (.cells #[.bool false, .slice none 0 0] 24)).alloc (.cells #[.bool false, .slice none 0 0] 24)) w.heap.size (w.heap.size + 1) s1 s2 A1 A2 n1 c1 n2 c2 l1 l2 wx)
 case first =>
  go_region_with (first
   | (go_at_call_of 53 (Value.agg #[.bool s1, .slice A1 n1 c1]); refine (read_any s1 A1 n1 c1 l1 _ (H1.out _ (by repeat (first | exact Below.refl _ _ | assumption | refine Below.drew ?_ | refine Below.drewN ?_ _ | refine Below.alloc ?_ (by simp <;> omega) _ | refine Below.setCell ?_ (by simp <;> omega) _)))).mono ?_; rintro e wa ⟨hba, sa, ma, rfl, hma, hva, hna, rfl⟩; obtain ⟨hca, hfa⟩ := bcell hba; have hza := hba.size; (try simp at hza); have hBa : Below w.heap.size w wa := Below.trans (by repeat (first | exact Below.refl _ _ | assumption | refine Below.drew ?_ | refine Below.drewN ?_ _ | refine Below.alloc ?_ (by simp <;> omega) _ | refine Below.setCell ?_ (by simp <;> omega) _)) (hba.mono (by first | (simp; omega) | omega)); have oaa : w.heap.size < wa.heap.size := (by omega); have oba : w.heap.size + 1 < wa.heap.size := (by omega))
   | (go_at_call_of 53 (Value.agg #[.bool s2, .slice A2 n2 c2]); refine (read_any s2 A2 n2 c2 l2 _ (H2.out _ (by repeat (first | exact Below.refl _ _ | assumption | refine Below.drew ?_ | refine Below.drewN ?_ _ | refine Below.alloc ?_ (by simp <;> omega) _ | refine Below.setCell ?_ (by simp <;> omega) _)))).mono ?_; rintro e wb ⟨hbb, sb, mb, rfl, hmb, hvb, hnb, rfl⟩; obtain ⟨hcb, hfb⟩ := bcell hbb; have hzb := hbb.size; (try simp at hzb); have hBb : Below w.heap.size w wb := Below.trans (by repeat (first | exact Below.refl _ _ | assumption | refine Below.drew ?_ | refine Below.drewN ?_ _ | refine Below.alloc ?_ (by simp <;> omega) _ | refine Below.setCell ?_ (by simp <;> omega) _)) (hbb.mono (by first | (simp; omega) | omega)); have oab : w.heap.size < wb.heap.size := (by omega); have obb : w.heap.size + 1 < wb.heap.size := (by omega)))
  all_goals
   have b1 : Bk wb w.heap.size 24 #[.bool s1, .slice A1 n1 c1] := (hbb.block _ oaa).trans ((hba.block _ (by first | (simp; done) | (simp; omega) | omega)).trans ((((Bk.alloc_ w 24 #[.bool s1, .slice A1 n1 c1]).alloc _).alloc _).alloc _))
   have b2 : Bk wb (w.heap.size + 1) 24 #[.bool s2, .slice A2 n2 c2] := (hbb.block _ oba).trans ((hba.block _ (by first | (simp; done) | (simp; omega) | omega)).trans (((alloc2_bk w _ _ _).alloc _).alloc _))
   have hst := store_two (x := .bool (s1 && decide (0 < ma))) (y := .slice A1 ma c1) (z := .bool (s2 && decide (0 < mb))) (u := .slice A2 mb c2) b1 b2 (by omega)
    (Fr.of_below (S := fun k => k = w.heap.size ∨ k = w.heap.size + 1) (w := ((((w.alloc (.cells #[.bool s1, .slice A1 n1 c1] 24)).alloc (.cells #[.bool s2, .slice A2 n2 c2] 24)).alloc (.cells #[.bool false, .slice none 0 0] 24)).alloc (.cells #[.bool false, .slice none 0 0] 24))) ((((Below.refl _ _).drew).trans hba).trans (hbb.mono (by first | (simp; done) | (simp; omega) | omega))))
   have HST := Lib.hid hst
   clear b1 b2 hst hca hcb hfa hfb hza hzb
   go_wp2_with fail
   go_meet
   exact ⟨ma, mb, hma, hva, hna, hmb, hvb, hnb, HST.out⟩
 case rest =>
  obtain ⟨m1, m2, hm1, hv1, hn1, hm2, hv2, hn2, k1, k2, hf⟩ := hcut
  obtain ⟨z1, p1⟩ := sg_read (s := s1) hv1 hn1 (by rw [HN1.out]; exact hm1)
  obtain ⟨z2, p2⟩ := sg_read (s := s2) hv2 hn2 (by rw [HN2.out]; exact hm2)
  generalize (s1 && decide (0 < m1)) = t1 at z1 p1 k1
  generalize (s2 && decide (0 < m2)) = t2 at z2 p2 k2
  have hbw : Below w.heap.size w wc := Below.trans (alloc4_below _ _ _ _ _) (hf.below (by first | (simp; done) | (simp; omega) | omega) (fun k hk h => by rcases h with h | h <;> omega))
  have L1 := (H1.out wc hbw).take hm1
  have L2 := (H2.out wc hbw).take hm2
  have e10 : wc.cell? ⟨w.heap.size, 0, none⟩ = some (.bool t1) := by simpa using k1.cell 0
  have e11 : wc.cell? ⟨w.heap.size, 1, none⟩ = some (.slice A1 m1 c1) := by simpa using k1.cell 1
  have e20 : wc.cell? ⟨w.heap.size + 1, 0, none⟩ = some (.bool t2) := by simpa using k2.cell 0
  have e21 : wc.cell? ⟨w.heap.size + 1, 1, none⟩ = some (.slice A2 m2 c2) := by simpa using k2.cell 1
  have Z1 := Lib.hid z1
  have Z2 := Lib.hid z2
  have HB := Lib.hid hbw
  have HF := Lib.hid hf
  have KK1 := Lib.hid k1
  have KK2 := Lib.hid k2
  clear z1 z2 hbw hf k1 k2 hv1 hv2
  have k1 : Bk wc w.heap.size 24 #[.bool t1, .slice A1 m1 c1] := KK1.out
  have k2 : Bk wc (w.heap.size + 1) 24 #[.bool t2, .slice A2 m2 c2] := KK2.out
  have k3 : Bk wc (w.heap.size + 2) 24 #[.bool false, .slice none 0 0] := (HF.out.block (w.heap.size + 2) (by simp) (fun h => by rcases h with h | h <;> omega)).trans (by have h := (Bk.alloc_ ((w.alloc (.cells #[.bool s1, .slice A1 n1 c1] 24)).alloc (.cells #[.bool s2, .slice A2 n2 c2] 24)) 24 #[.bool false, .slice none 0 0]).alloc (.cells #[.bool false, .slice none 0 0] 24); rw [World.size_alloc, World.size_alloc] at h; exact h)
  have k4 : Bk wc (w.heap.size + 3) 24 #[.bool false, .slice none 0 0] := (HF.out.block (w.heap.size + 3) (by simp) (fun h => by rcases h with h | h <;> omega)).trans (by have h := Bk.alloc_ (((w.alloc (.cells #[.bool s1, .slice A1 n1 c1] 24)).alloc (.cells #[.bool s2, .slice A2 n2 c2] 24)).alloc (.cells #[.bool false, .slice none 0 0] 24)) 24 #[.bool false, .slice none 0 0]; rw [World.size_alloc, World.size_alloc, World.size_alloc] at h; exact h)
  have KEEP : Hid (∀ w', Below wc.heap.size wc w' → Bk w' w.heap.size 24 #[.bool t1, .slice A1 m1 c1] ∧ Bk w' (w.heap.size + 1) 24 #[.bool t2, .slice A2 m2 c2] ∧ Bk w' (w.heap.size + 2) 24 #[.bool false, .slice none 0 0] ∧ Bk w' (w.heap.size + 3) 24 #[.bool false, .slice none 0 0] ∧
   w'.cell? ⟨w.heap.size, 0, none⟩ = some (.bool t1) ∧ w'.cell? ⟨w.heap.size, 1, none⟩ = some (.slice A1 m1 c1) ∧ w'.cell? ⟨w.heap.size + 1, 0, none⟩ = some (.bool t2) ∧ w'.cell? ⟨w.heap.size + 1, 1, none⟩ = some (.slice A2 m2 c2) ∧
   w'.cell? ⟨w.heap.size + 2, 0, none⟩ = some (.bool false) ∧ w'.cell? ⟨w.heap.size + 2, 1, none⟩ = some (.slice none 0 0) ∧ w'.cell? ⟨w.heap.size + 3, 0, none⟩ = some (.bool false) ∧ w'.cell? ⟨w.heap.size + 3, 1, none⟩ = some (.slice none 0 0) ∧
   w'.frozen? ⟨w.heap.size + 2, 0, none⟩ = false ∧ w'.frozen? ⟨w.heap.size + 2, 1, none⟩ = false ∧ w'.frozen? ⟨w.heap.size + 3, 0, none⟩ = false ∧ w'.frozen? ⟨w.heap.size + 3, 1, none⟩ = false) := by
   intro w' hb
   have r1 := k1.below hb k1.lt
   have r2 := k2.below hb k2.lt
   have r3 := k3.below hb k3.lt
   have r4 := k4.below hb k4.lt
   exact ⟨r1, r2, r3, r4, by simpa using r1.cell 0, by simpa using r1.cell 1, by simpa using r2.cell 0, by simpa using r2.cell 1, by simpa using r3.cell 0, by simpa using r3.cell 1, by simpa using r4.cell 0, by simpa using r4.cell 1, r3.frozen 0, r3.frozen 1, r4.frozen 0, r4.frozen 1⟩
  have hsz := k4.lt
  clear k1 k2 k3 k4 e10 e11
  go_wp2_with fail
  refine (isZero_any t2 A2 m2 c2 (l2.take m2) wc L2).mono ?_
  rintro e wd ⟨rfl, hbd⟩
  have LL1 := L1.below hbd (Nat.le_refl _) hbd.size
  have LL2 := L2.below hbd (Nat.le_refl _) hbd.size
  obtain ⟨_, _, r3, r4, c10, c11, c20, c21, c30, c31, c40, c41, f30, f31, f40, f41⟩ := KEEP.out wd hbd
  have HBD := Lib.hid (HB.out.trans (hbd.mono (by have := HB.out.size; omega)))
  have HBD2 := Lib.hid hbd
  clear e20 e21 hbd L1 L2
  by_cases hz : val (l2.take m2) = 0
  · have hd : decide (val (l2.take m2) = 0) = true := by simpa using hz
    have hz2 : Hid (sg s2 (val l2) = 0) := by
     show _ = _
     rw [← Z2.out, hz]; cases t2 <;> rfl
    rw [hd]
    clear hz hd
    go_wp2
    refine bodyPost_ret (v := .tuple #[.agg #[.bool false, .slice none 0 0], .agg #[.bool false, .slice none 0 0], .int .i64 9]) (by simp [results, Tryz.results20, go_sem, c30, c31, c40, c41]) rfl ⟨(((HBD.out.setCell (by simp; omega) _).setCell (by simp; omega) _).setCell (by simp; omega) _).setCell (by simp; omega) _, _, _, .inl ⟨hz2.out, rfl, rfl, rfl⟩⟩
  · have hd : decide (val (l2.take m2) = 0) = false := by simpa using hz
    rw [hd]
    have HZ := Lib.hid hz
    clear hd hz
    go_wp2_with fail
    refine (divideLimbs_any m1 c1 m2 c2 A1 A2 _ _ wd LL1 hn1 LL2 hn2 (Nat.pos_of_ne_zero HZ.out) (by omega)).mono ?_
    rintro e we ⟨hbe, vq, vr, rfl, ⟨Aq, nq, cq, lq, rfl, hlq, hnq, hvq⟩, ⟨Ar, nr, cr, lr, rfl, hlr, hnr', hvr⟩⟩
    have HLQ := Lib.hid hlq
    have HLR := Lib.hid hlr
    have HVQ := Lib.hid hvq
    have HVR := Lib.hid hvr
    have hb0 : 0 < val (l2.take m2) := Nat.pos_of_ne_zero HZ.out
    have hy0 : sg s2 (val l2) ≠ 0 := by
     rw [← Z2.out]; cases t2 <;> simp [sg] <;> omega
    have HY0 := Lib.hid hy0
    have HB0 := Lib.hid hb0
    have HBE := Lib.hid (HBD.out.trans (hbe.mono (by have := HBD.out.size; omega)))
    have HBE2 := Lib.hid (HBD2.out.trans (hbe.mono HBD2.out.size))
    obtain ⟨_, _, _, _, k10, k11, k20, k21, _, _, _, _, _, _, _, _⟩ := KEEP.out we HBE2.out
    have hrl := hlr.len
    have HBE3 := Lib.hid hbe
    clear hlq hlr hvq hvr hb0 hy0 hbe c10 c11 c20 c21 c30 c31 c40 c41 f30 f31 f40 f41 r3 r4
    by_cases hadj : t1 = true ∧ 0 < nr
    · obtain ⟨rfl, hnr⟩ := hadj
      have hd1 : decide (0 < nr) = true := by simpa using hnr
      have hrne : val (l1.take m1) % val (l2.take m2) ≠ 0 := by
       rw [← HVR.out]
       have := norm_val_pos hnr' (by intro e; have h := HLR.out.len; rw [e] at h; simp at h; omega)
       omega
      have hmod := Nat.mod_lt (val (l1.take m1)) HB0.out
      have HRNE := Lib.hid hrne
      have HMOD := Lib.hid hmod
      have hone : Lim (we.alloc (.cells #[.int .u32 1] 81)) (we.heap.size + 1) (some ⟨we.heap.size, 0, none⟩) 1 1 [1] := by
       have h1 : Buf (we.alloc (.cells #[.int .u32 1] 81)) we.heap.size 81 [1] := ⟨by have := Bk.alloc_ we 81 #[.int .u32 1]; simpa [u32s] using this, Bd.nil.cons (by omega)⟩
       exact h1.lim (n := 1) (c := 1) (by omega) (by omega) (by omega) (by simp)
      have hq1 : nq ≤ 536870912 := by
       have h1 := HVQ.out
       have h2 : lq.length ≤ m1 := by
        apply norm_len_le hnq
        rw [h1]
        exact Nat.lt_of_le_of_lt (Nat.div_le_self _ _) (by have := val_lt LL1.bd; rwa [LL1.len] at this)
       rw [HLQ.out.len] at h2; omega
      have hadd := addLimbs_any Aq (some ⟨we.heap.size, 0, none⟩) nq cq 1 1 lq [1] (we.alloc (.cells #[.int .u32 1] 81)) (HLQ.out.alloc _ (Nat.le_refl _) (by simp)) (hone.mono (by simp)) (by omega) (by omega)
      have HADD := Lib.hid hadd
      clear hrne hmod hone hadd
      go_wp2_with fail
      refine HADD.out.mono ?_
      rintro e wf ⟨hbf, Aq', nq', cq', lq', rfl, hlq', hnq', hvq'⟩
      have hbf2 : Below we.heap.size we wf := ((Below.refl _ _).alloc (Nat.le_refl _) _).trans (hbf.mono (by simp))
      obtain ⟨_, _, _, _, k10, k11, k20, k21, _, _, _, _, _, _, _, _⟩ := KEEP.out wf (HBE2.out.trans (hbf2.mono HBE2.out.size))
      have HBF2 := Lib.hid hbf2
      have HLQ' := Lib.hid hlq'
      have HVQ' := Lib.hid hvq'
      have LL2f := (LL2.below HBE3.out (Nat.le_refl _) HBE3.out.size).below hbf2 (Nat.le_refl _) hbf2.size
      have LRf := HLR.out.below hbf2 (Nat.le_refl _) hbf2.size
      have hsub := subtractLimbs_any A2 Ar m2 c2 nr cr _ lr wf LL2f LRf (by rw [HVR.out]; exact Nat.le_of_lt HMOD.out) hnr' (by omega)
      have HSUB := Lib.hid hsub
      clear hbf hbf2 hlq' hvq' LL2f LRf hsub
      go_wp2_with fail
      refine HSUB.out.mono ?_
      rintro e wh ⟨hbh, Ar', nr', cr', lr', rfl, hlr', hnr2, hvr'⟩
      have HBX := Lib.hid (HBE.out.trans ((HBF2.out.trans (hbh.mono HBF2.out.size)).mono (by have := HBE.out.size; omega)))
      have HBX2 := Lib.hid (HBE2.out.trans ((HBF2.out.trans (hbh.mono HBF2.out.size)).mono HBE2.out.size))
      have HLQX := Lib.hid (HLQ'.out.below hbh (Nat.le_refl _) hbh.size)
      have HLRX := Lib.hid hlr'
      have HVRX := Lib.hid hvr'
      obtain ⟨_, _, _, _, k10, k11, k20, k21, _, _, _, _, _, _, _, _⟩ := KEEP.out wh HBX2.out
      clear hbh hlr' hvr'
      go_wp2_with fail
      refine (signed_any _ _ _ _ _).mono ?_
      rintro e wx ⟨rfl, hbx⟩
      go_wp2_with fail
      refine (signed_any _ _ _ _ _).mono ?_
      rintro e wy ⟨rfl, hby⟩
      have hbxy : Below (wh).heap.size wh wy := hbx.trans (hby.mono hbx.size)
      obtain ⟨_, _, r3, r4, _, _, _, _, c30, c31, c40, c41, f30, f31, f40, f41⟩ := KEEP.out wy (HBX2.out.trans (hbxy.mono HBX2.out.size))
      have hbel : Below w.heap.size w wy := HBX.out.trans (hbxy.mono (by have := HBX.out.size; omega))
      have hlq9 := HLQX.out.below hbxy (Nat.le_refl _) hbxy.size
      have hlr9 := HLRX.out.below hbxy (Nat.le_refl _) hbxy.size
      have r3x : Bk wy (w.heap.size + 1 + 1) 24 #[.bool false, .slice none 0 0] := r3
      have r4' : Bk ((wy.setCell ⟨w.heap.size + 1 + 1, 0, none⟩ (.bool ((!t2) && decide (0 < nq')))).setCell ⟨w.heap.size + 1 + 1, 1, none⟩ (.slice Aq' nq' cq')) (w.heap.size + 1 + 1 + 1) 24 #[.bool false, .slice none 0 0] :=
       (r4.other (p := ⟨w.heap.size + 2, 0, none⟩) (by simp) _).other (p := ⟨w.heap.size + 2, 1, none⟩) (by simp) _
      have HQ9 := Lib.hid ((hlq9.past r3x (.bool ((!t2) && decide (0 < nq'))) (.slice Aq' nq' cq')).past r4' (.bool false) (.slice Ar' nr' cr'))
      have HR9 := Lib.hid ((hlr9.past r3x (.bool ((!t2) && decide (0 < nq'))) (.slice Aq' nq' cq')).past r4' (.bool false) (.slice Ar' nr' cr'))
      have HBEL := Lib.hid hbel
      clear r3 r3x r4 r4' hlq9 hlr9 hbel hbxy hbx hby
      go_wp2
      refine bodyPost_ret (v := .tuple #[.agg #[.bool ((!t2) && decide (0 < nq')), .slice Aq' nq' cq'], .agg #[.bool false, .slice Ar' nr' cr'], .int .i64 0]) (by simp [results, Tryz.results20, go_sem, c30, c31, c40, c41]) rfl ⟨(((HBEL.out.setCell (by simp; omega) _).setCell (by simp; omega) _).setCell (by simp; omega) _).setCell (by simp; omega) _, _, _, .inr ⟨HY0.out, mkInt (HQ9.out.mono (by simp)) hnq' (by show _ = _; rw [← Z1.out, ← Z2.out, (divide_sg (u := t2) (divide_neg HB0.out HRNE.out)).1, HVQ'.out, HVQ.out]; simp [val]), mkInt (t := false) (HR9.out.mono (by simp)) hnr2 (by show _ = _; rw [← Z1.out, ← Z2.out, (divide_sg (u := t2) (divide_neg HB0.out HRNE.out)).2, HVRX.out, HVR.out]; rfl), rfl⟩⟩
    · have HBX := HBE
      have HBX2 := HBE2
      have HLQX := HLQ
      have HLRX := HLR
      cases t1
      · clear hadj
        go_wp2_with fail
        refine (signed_any _ _ _ _ _).mono ?_
        rintro e wx ⟨rfl, hbx⟩
        go_wp2_with fail
        refine (signed_any _ _ _ _ _).mono ?_
        rintro e wy ⟨rfl, hby⟩
        have hbxy : Below (we).heap.size we wy := hbx.trans (hby.mono hbx.size)
        obtain ⟨_, _, r3, r4, _, _, _, _, c30, c31, c40, c41, f30, f31, f40, f41⟩ := KEEP.out wy (HBX2.out.trans (hbxy.mono HBX2.out.size))
        have hbel : Below w.heap.size w wy := HBX.out.trans (hbxy.mono (by have := HBX.out.size; omega))
        have hlq9 := HLQX.out.below hbxy (Nat.le_refl _) hbxy.size
        have hlr9 := HLRX.out.below hbxy (Nat.le_refl _) hbxy.size
        have r3x : Bk wy (w.heap.size + 1 + 1) 24 #[.bool false, .slice none 0 0] := r3
        have r4' : Bk ((wy.setCell ⟨w.heap.size + 1 + 1, 0, none⟩ (.bool (t2 && decide (0 < nq)))).setCell ⟨w.heap.size + 1 + 1, 1, none⟩ (.slice Aq nq cq)) (w.heap.size + 1 + 1 + 1) 24 #[.bool false, .slice none 0 0] :=
         (r4.other (p := ⟨w.heap.size + 2, 0, none⟩) (by simp) _).other (p := ⟨w.heap.size + 2, 1, none⟩) (by simp) _
        have HQ9 := Lib.hid ((hlq9.past r3x (.bool (t2 && decide (0 < nq))) (.slice Aq nq cq)).past r4' (.bool false) (.slice Ar nr cr))
        have HR9 := Lib.hid ((hlr9.past r3x (.bool (t2 && decide (0 < nq))) (.slice Aq nq cq)).past r4' (.bool false) (.slice Ar nr cr))
        have HBEL := Lib.hid hbel
        clear r3 r3x r4 r4' hlq9 hlr9 hbel hbxy hbx hby
        go_wp2
        refine bodyPost_ret (v := .tuple #[.agg #[.bool (t2 && decide (0 < nq)), .slice Aq nq cq], .agg #[.bool false, .slice Ar nr cr], .int .i64 0]) (by simp [results, Tryz.results20, go_sem, c30, c31, c40, c41]) rfl ⟨(((HBEL.out.setCell (by simp; omega) _).setCell (by simp; omega) _).setCell (by simp; omega) _).setCell (by simp; omega) _, _, _, .inr ⟨HY0.out, mkInt (HQ9.out.mono (by simp)) hnq (by show _ = _; rw [← Z1.out, ← Z2.out, (divide_sg (u := t2) (divide_pos false HB0.out (.inl rfl))).1, HVQ.out]; simp), mkInt (t := false) (HR9.out.mono (by simp)) hnr' (by show _ = _; rw [← Z1.out, ← Z2.out, (divide_sg (u := t2) (divide_pos false HB0.out (.inl rfl))).2, HVR.out]; rfl), rfl⟩⟩
      · have hn0 : nr = 0 := by
         rcases Nat.eq_zero_or_pos nr with h | h
         · exact h
         · exact absurd ⟨rfl, h⟩ hadj
        have hd1 : decide (0 < nr) = false := by simp [hn0]
        have hr0 : val (l1.take m1) % val (l2.take m2) = 0 := by
         rw [← HVR.out]
         have : lr = [] := List.eq_nil_of_length_eq_zero (by rw [HLR.out.len, hn0])
         rw [this]; rfl
        have HR0 := Lib.hid hr0
        clear hadj hn0 hr0
        go_wp2_with fail
        refine (signed_any _ _ _ _ _).mono ?_
        rintro e wx ⟨rfl, hbx⟩
        go_wp2_with fail
        refine (signed_any _ _ _ _ _).mono ?_
        rintro e wy ⟨rfl, hby⟩
        have hbxy : Below (we).heap.size we wy := hbx.trans (hby.mono hbx.size)
        obtain ⟨_, _, r3, r4, _, _, _, _, c30, c31, c40, c41, f30, f31, f40, f41⟩ := KEEP.out wy (HBX2.out.trans (hbxy.mono HBX2.out.size))
        have hbel : Below w.heap.size w wy := HBX.out.trans (hbxy.mono (by have := HBX.out.size; omega))
        have hlq9 := HLQX.out.below hbxy (Nat.le_refl _) hbxy.size
        have hlr9 := HLRX.out.below hbxy (Nat.le_refl _) hbxy.size
        have r3x : Bk wy (w.heap.size + 1 + 1) 24 #[.bool false, .slice none 0 0] := r3
        have r4' : Bk ((wy.setCell ⟨w.heap.size + 1 + 1, 0, none⟩ (.bool ((!t2) && decide (0 < nq)))).setCell ⟨w.heap.size + 1 + 1, 1, none⟩ (.slice Aq nq cq)) (w.heap.size + 1 + 1 + 1) 24 #[.bool false, .slice none 0 0] :=
         (r4.other (p := ⟨w.heap.size + 2, 0, none⟩) (by simp) _).other (p := ⟨w.heap.size + 2, 1, none⟩) (by simp) _
        have HQ9 := Lib.hid ((hlq9.past r3x (.bool ((!t2) && decide (0 < nq))) (.slice Aq nq cq)).past r4' (.bool false) (.slice Ar nr cr))
        have HR9 := Lib.hid ((hlr9.past r3x (.bool ((!t2) && decide (0 < nq))) (.slice Aq nq cq)).past r4' (.bool false) (.slice Ar nr cr))
        have HBEL := Lib.hid hbel
        clear r3 r3x r4 r4' hlq9 hlr9 hbel hbxy hbx hby
        go_wp2
        refine bodyPost_ret (v := .tuple #[.agg #[.bool ((!t2) && decide (0 < nq)), .slice Aq nq cq], .agg #[.bool false, .slice Ar nr cr], .int .i64 0]) (by simp [results, Tryz.results20, go_sem, c30, c31, c40, c41]) rfl ⟨(((HBEL.out.setCell (by simp; omega) _).setCell (by simp; omega) _).setCell (by simp; omega) _).setCell (by simp; omega) _, _, _, .inr ⟨HY0.out, mkInt (HQ9.out.mono (by simp)) hnq (by show _ = _; rw [← Z1.out, ← Z2.out, (divide_sg (u := t2) (divide_pos true HB0.out (.inr HR0.out))).1, HVQ.out]; simp), mkInt (t := false) (HR9.out.mono (by simp)) hnr' (by show _ = _; rw [← Z1.out, ← Z2.out, (divide_sg (u := t2) (divide_pos true HB0.out (.inr HR0.out))).2, HVR.out]; rfl), rfl⟩⟩
end Go.Proofs.YthlfhfkfjefidaaGreat
