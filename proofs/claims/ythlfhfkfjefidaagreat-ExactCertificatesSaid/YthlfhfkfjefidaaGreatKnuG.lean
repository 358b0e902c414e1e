/- Several texts in one. -/
import Derived.Test.YthlfhfkfjefidaaGreatDiv1
import Derived.Test.YthlfhfkfjefidaaGreatDiv2
import Derived.Deep.RegionHeld3
import Derived.Test.YthlfhfkfjefidaaGreatShelf
import Derived.Lib.LazyBuf
import Derived.Deep.LoopGhost
import Derived.Deep.AppendLies
/- The state of a division, and the walk of divideByLimb. -/
namespace Go.Proofs.YthlfhfkfjefidaaGreat
open Go.RowKit
def Off (A : Option Addr) (S : Nat → Prop) : Prop := ∀ ad, A = some ad → ¬ S ad.block
theorem Lim.fr {w w' : World} {S : Nat → Prop} {A : Option Addr} {n c : Nat} {l : List Nat} (h : Lim w w.heap.size A n c l) (hf : Fr S w w') (ho : 0 < n → Off A S) : Lim w' w'.heap.size A n c l := by
 refine ⟨⟨h.sl.len, h.sl.cap, h.sl.max, fun hn => ?_⟩, h.bd⟩
 obtain ⟨b, o, e, hb, hc⟩ := h.sl.cells hn
 refine ⟨b, o, e, Nat.lt_of_lt_of_le hb hf.size, fun k u hu => ?_⟩
 rw [World.cell?_of_block (a := ⟨b, o + k, none⟩) (hf.block b hb (ho hn _ e))]
 exact hc k u hu
theorem Fr.refl (S : Nat → Prop) (w : World) : Fr S w w := ⟨rfl, rfl, rfl, Nat.le_refl _, fun _ _ _ => rfl⟩
theorem Fr.trans {S T : Nat → Prop} {a b c : World} (h : Fr S a b) (k : Fr T b c) (hT : ∀ x, x < a.heap.size → T x → S x) : Fr S a c :=
 ⟨k.os.trans h.os, k.tape.trans h.tape, k.output.trans h.output, Nat.le_trans h.size k.size, fun i hi hs => (k.block i (Nat.lt_of_lt_of_le hi h.size) (fun ht => hs (hT i hi ht))).trans (h.block i hi hs)⟩
theorem Fr.setCell {S : Nat → Prop} {a b : World} (h : Fr S a b) {g : Nat} (hg : g < a.heap.size → S g) (o : Nat) (u : Value) : Fr S a (b.setCell ⟨g, o, none⟩ u) := h.only ((Only.refl g b).setCell o u) hg
theorem Fr.drew {S : Nat → Prop} {a b : World} (h : Fr S a b) : Fr S a b.drew := ⟨h.os, h.tape, h.output, h.size, h.block⟩
theorem Fr.drewN {S : Nat → Prop} {a b : World} (h : Fr S a b) (n : Nat) : Fr S a (b.drewN n) := ⟨h.os, h.tape, h.output, h.size, h.block⟩
theorem Fr.alloc {S : Nat → Prop} {a b : World} (h : Fr S a b) (o : Obj) : Fr S a (b.alloc o) := h.trans (Fr.of_below (S := S) ((Below.refl _ _).alloc (Nat.le_refl _) o)) (fun _ _ h => h)
theorem Fr.below {S : Nat → Prop} {a b : World} (h : Fr S a b) {B : Nat} (hB : B ≤ a.heap.size) (hS : ∀ k, k < B → ¬ S k) : Below B a b := ⟨h.os, h.tape, h.output, h.size, fun k hk => h.block k (by omega) (hS k hk)⟩
theorem Fr.grown {S : Nat → Prop} {a b c : World} (h : Fr S a b) {row : Option Nat} (hg : b.grownBy c row) (hr : ∀ k, k < a.heap.size → row = some k → S k) : Fr S a c :=
 ⟨hg.os.trans h.os, hg.tape.trans h.tape, hg.output.trans h.output, Nat.le_trans h.size hg.size, fun k hk hs => (hg.block k (Nat.lt_of_lt_of_le hk h.size) (fun e => hs (hr k hk e.symm))).trans (h.block k hk hs)⟩
def Ap (u v : Value) : Prop := ∀ k, u.ownBlock = some k → v.ownBlock ≠ some k
theorem Ap.symm {u v : Value} (h : Ap u v) : Ap v u := fun k hv hu => h k hu hv
theorem OwnL.ne_bk {w : World} {base : Nat} {t t' : TypeId} {v : Value} {l : List Nat} (h : OwnL w base t v l) {g : Nat} {cs : Array Value} (hb : Bk w g t' cs) (ht : t ≠ t') : v.ownBlock ≠ some g := by
 intro hk
 rcases h with ⟨rfl, _⟩ | ⟨g', n, c, O, rfl, _, hbuf, _⟩
 · simp [Value.ownBlock] at hk
 · simp [Value.ownBlock] at hk
   subst hk
   have h1 := hbuf.bk
   unfold Bk at h1 hb
   rw [h1] at hb
   injection hb with hb
   injection hb with _ e
   exact ht e
def DS (gd : Nat) (vq vr vb : Value) : Nat → Prop := fun k => k = gd ∨ vq.ownBlock = some k ∨ vr.ownBlock = some k ∨ vb.ownBlock = some k
structure DivS (w : World) (gd base : Nat) (vq vr vb : Value) (lq lr lb : List Nat) : Prop where
 bk : Bk w gd 125 #[vq, vr, vb]
 q : OwnL w base 81 vq lq
 r : OwnL w base 81 vr lr
 b : OwnL w base 81 vb lb
 qr : Ap vq vr
 qb : Ap vq vb
 rb : Ap vr vb
def DivR (gd base : Nat) (vq vr vb : Value) (q r : Nat) (w : World) (e : Ending) (w' : World) : Prop :=
 e = .returned (.tuple #[]) ∧ ∃ vq' vr' vb' lq lr lb, DivS w' gd base vq' vr' vb' lq lr lb ∧ Norm lq ∧ val lq = q ∧ Norm lr ∧ val lr = r ∧ Fr (DS gd vq vr vb) w w' ∧
  (∀ k, DS gd vq' vr' vb' k → DS gd vq vr vb k ∨ w.heap.size ≤ k)
end Go.Proofs.YthlfhfkfjefidaaGreat
/- The walk of divideByLimb. -/
namespace Go.Proofs.YthlfhfkfjefidaaGreat
open Go.RowKit
theorem div_step {q r r' x y V Qv : Nat} (hs : r * 4294967296 + x = q * y + r') (h : Qv * y + r = V) : (q + 4294967296 * Qv) * y + r' = x + 4294967296 * V := by
 rw [Nat.add_mul, Nat.mul_assoc, ← h, Nat.mul_add]; omega
theorem limb_get {O Q T : List Nat} {k z : Nat} (hk : k < O.length) (hz : O[k]? = some z) : (O.take (k + 1) ++ Q ++ T)[k]? = some z := by
 rw [List.append_assoc, List.getElem?_append_left (by rw [List.length_take]; omega), List.getElem?_take, if_pos (by omega)]; exact hz
theorem limb_set {O Q T : List Nat} {k z : Nat} (hk : k < O.length) : (O.take (k + 1) ++ Q ++ T).set k z = O.take k ++ (z :: Q) ++ T := by
 have e : (O.take k).length = k := by rw [List.length_take]; omega
 rw [List.take_succ_eq_append_getElem hk, List.append_assoc, List.append_assoc, List.set_append_right _ _ (by omega), e, Nat.sub_self]
 simp
set_option maxRecDepth 100000 in
set_option maxHeartbeats 4000000 in
theorem byLimb_any (gd base n c y : Nat) (A : Option Addr) (a : List Nat) (vq vr vb : Value) (lq lr lb : List Nat) (w : World) (hD : DivS w gd base vq vr vb lq lr lb) (hbase : base ≤ w.heap.size) (hgb : base ≤ gd)
 (ha : Lim w w.heap.size A n c a) (hoff : 0 < n → Off A (DS gd vq vr vb)) (hy0 : 0 < y) (hyb : y < 4294967296) (h0 : 0 < n) (hn : n ≤ 1073741824) :
 Calls Tryz.prog 125 #[.pointer (some ⟨gd, 0, none⟩), .slice A n c, .int .u32 (y : Int)] w (DivR gd base vq vr vb (val a / y) (val a % y) w) := by
 obtain ⟨i0, hi0, hz0, hz1, hz2⟩ := info_parts info_u32
 have hal := Lib.hid ha.len
 have hab := Lib.hid ha.bd
 obtain ⟨Aq, cq, hvq⟩ := hD.q.form
 obtain ⟨Ar, cr, hvr⟩ := hD.r.form
 obtain ⟨Ab, cb, hvb⟩ := hD.b.form
 generalize lq.length = nq at hvq
 generalize lr.length = nr at hvr
 generalize lb.length = nb at hvb
 have d0 := hD.bk.cell 0
 have d1 := hD.bk.cell 1
 have d2 := hD.bk.cell 2
 simp only [List.getElem?_toArray, List.getElem?_cons_zero, List.getElem?_cons_succ, hvq, hvr, hvb] at d0 d1 d2
 have HD := Lib.hid hD
 have HOFF := Lib.hid hoff
 have HVQ := Lib.hid hvq
 have HVR := Lib.hid hvr
 have HVB := Lib.hid hvb
 have hgdlt := hD.bk.lt
 clear hD hoff hvq hvr hvb
 go_enter Tryz.func125, Tryz.ntmps125
 go_wp2_with fail
 have hown := HD.out.q
 rw [HVQ.out] at hown
 refine (sized_own base n _ lq _ hown hbase h0 (by omega)).mono ?_
 clear hown
 rintro e w1 ⟨gq, cq2, O, rfl, hO, hOl, hnc, hc9, hB1, hbgq, hor⟩
 have hk1 : Bk w1 gd 125 #[vq, vr, vb] := HD.out.bk.below hB1 hgdlt
 have hne : gq ≠ gd := by
  rintro rfl
  have h1 := hO.bk
  unfold Bk at h1 hk1
  rw [h1] at hk1
  injection hk1 with hk1
  injection hk1 with _ e
  exact absurd e (by decide)
 have d0 := hk1.cell 0
 simp only [List.getElem?_toArray, List.getElem?_cons_zero, HVQ.out] at d0
 have f0 := hk1.frozen 0
 have HK1 := Lib.hid hk1
 have HOR := Lib.hid hor
 have HOL := Lib.hid hOl
 clear hk1 hor hOl d1 d2
 go_wp2_with fail
 have hO2 : Buf (w1.setCell ⟨gd, 0, none⟩ (.slice (some ⟨gq, 0, none⟩) n cq2)) gq 81 O := hO.other (p := ⟨gd, 0, none⟩) hne _
 have hk2 : Bk (w1.setCell ⟨gd, 0, none⟩ (.slice (some ⟨gq, 0, none⟩) n cq2)) gd 125 #[.slice (some ⟨gq, 0, none⟩) n cq2, vr, vb] := by
  have := HK1.out.set_ 0 (.slice (some ⟨gq, 0, none⟩) n cq2)
  simpa using this
 have hf2 : Fr (DS gd vq vr vb) w (w1.setCell ⟨gd, 0, none⟩ (.slice (some ⟨gq, 0, none⟩) n cq2)) := (Fr.of_below hB1).setCell (fun _ => .inl rfl) _ _
 have hf3 : Fr (fun k => k = gd ∨ k = gq) w (w1.setCell ⟨gd, 0, none⟩ (.slice (some ⟨gq, 0, none⟩) n cq2)) := (Fr.of_below hB1).setCell (fun _ => .inl rfl) _ _
 generalize w1.setCell ⟨gd, 0, none⟩ (.slice (some ⟨gq, 0, none⟩) n cq2) = w2 at hO2 hk2 hf2 hf3
 have ha2 := ha.fr hf2 HOFF.out
 have HK2 := Lib.hid hk2
 clear d0 f0 hk2
 have hoffq : ∀ b o, A = some ⟨b, o, none⟩ → b < w.heap.size → b ≠ gq := by
  intro b o e hb hq
  subst hq
  rcases HOR.out with ⟨h1, _⟩ | ⟨h1, _⟩
  · exact HOFF.out h0 _ e (.inr (.inl (by rw [HVQ.out]; exact h1)))
  · omega
 have HOQ := Lib.hid hoffq
 clear hoffq
 go_loopw [6, 7] (fun cv iv wr => ∃ (i : Int) (r : Nat) (Q : List Nat), -1 ≤ i ∧ i < (n : Int) ∧ iv = .int .i64 i ∧ cv = .int .u32 (r : Int) ∧ r < y ∧ Buf wr gq 81 (O.take (i + 1).toNat ++ Q ++ O.drop n) ∧ Hid (Q.length = n - (i + 1).toNat) ∧
  Hid (val Q * y + r = val (a.drop (i + 1).toNat)) ∧ Only gq w2 wr)
  (fun _ iv _ => (intOf iv + 1).toNat)
 case atStart =>
  refine ⟨(n : Int) - 1, 0, [], by omega, by omega, rfl, rfl, hy0, ?_, ?_, ?_, Only.refl _ _⟩
  · rw [show ((n : Int) - 1 + 1).toNat = n from by omega, List.append_nil, List.take_append_drop]; exact hO2
  · show 0 = n - _; omega
  · show val [] * y + 0 = val (a.drop _)
    rw [List.drop_of_length_le (by rw [hal.out]; omega)]
    simp [val]
 case round =>
  obtain ⟨i, r, Q, hi1, hi2, rfl, rfl, hr, hbuf, hQ, hval, hon⟩ := hrel
  rcases Int.lt_or_le i 0 with hneg | hpos
  · obtain rfl : i = -1 := by omega
    have hQ2 : Hid (Q.length = n) := hQ.out
    have hval2 : Hid (val Q * y + r = val a) := by
     have h1 := hval.out
     have e : ((-1 : Int) + 1).toNat = 0 := rfl
     rw [e, List.drop_zero] at h1
     exact h1
    have hbuf2 : Buf wr gq 81 (Q ++ O.drop n) := by simpa using hbuf
    have hk3 := hon.bk HK2.out (Ne.symm hne)
    have hcd : wr.cell? ⟨gd, 0, none⟩ = some (.slice (some ⟨gq, 0, none⟩) n cq2) := by simpa using hk3.cell 0
    have hcd1 : wr.cell? ⟨gd, 1, none⟩ = some (.slice Ar nr cr) := by
     have := hk3.cell 1
     rw [HVR.out] at this
     simpa using this
    have hfd := hk3.frozen 0
    have hfd1 := hk3.frozen 1
    have hlq : Lim wr wr.heap.size (some ⟨gq, 0, none⟩) n cq2 Q := by
     have := hbuf2.lim (B := wr.heap.size) (n := n) (c := cq2) hbuf2.lt hnc hc9 (by rw [List.length_append, hQ2.out]; omega)
     rwa [List.take_left' hQ2.out] at this
    have hfr : Fr (fun k => k = gd ∨ k = gq) w wr := hf3.only hon (fun _ => .inr rfl)
    have hgq : gq < w.heap.size → vq.ownBlock = some gq := by
     intro hlt
     rcases HOR.out with ⟨h1, _⟩ | ⟨h1, _⟩
     · rw [HVQ.out]; exact h1
     · omega
    have hnk : ∀ (v : Value) (l : List Nat), OwnL w base 81 v l → Ap vq v → ∀ k, v.ownBlock = some k → k ≠ gd ∧ k ≠ gq ∧ k < w.heap.size := by
     intro v l ho hap k hk
     have hlt := (ho.block k hk).2
     refine ⟨fun e => ho.ne_bk HD.out.bk (by decide) (by rw [hk, e]), fun e => ?_, hlt⟩
     exact hap gq (hgq (e ▸ hlt)) (by rw [hk, e])
    have hkp : ∀ (v : Value) (l : List Nat), OwnL w base 81 v l → Ap vq v → OwnL wr base 81 v l := by
     intro v l ho hap
     refine ho.keep fun k hk => ?_
     obtain ⟨h1, h2, h3⟩ := hnk v l ho hap k hk
     exact hfr.block k h3 (fun h => h.elim h1 h2)
    have HNK := Lib.hid hnk
    have HKP := Lib.hid hkp
    have HGQ := Lib.hid hgq
    have HFR := Lib.hid hfr
    have HLQ := Lib.hid hlq
    have HK3 := Lib.hid hk3
    clear hQ hval hbuf hlq hk3 hnk hkp hgq hfr
    go_wp2_with fail
    refine (trim_any _ _ _ _ _ _ HLQ.out).mono ?_
    rintro e w' ⟨rfl, m, rfl, hm, hv, hnorm⟩
    have hbq3 := hbuf2.other (p := ⟨gd, 0, none⟩) hne (.slice (some ⟨gq, 0, none⟩) m cq2)
    have hbq4 := hbq3.alloc (.cells #[.int .u32 (r : Int)] 81)
    have hk4 : Bk ((wr.setCell ⟨gd, 0, none⟩ (.slice (some ⟨gq, 0, none⟩) m cq2)).alloc (.cells #[.int .u32 (r : Int)] 81)) gd 125 #[.slice (some ⟨gq, 0, none⟩) m cq2, vr, vb] := by
     have h1 := (HK3.out.set_ 0 (.slice (some ⟨gq, 0, none⟩) m cq2)).alloc (.cells #[.int .u32 (r : Int)] 81)
     simpa using h1
    have keep4 : ∀ (v : Value) (l : List Nat), OwnL w base 81 v l → Ap vq v → OwnL ((wr.setCell ⟨gd, 0, none⟩ (.slice (some ⟨gq, 0, none⟩) m cq2)).alloc (.cells #[.int .u32 (r : Int)] 81)) base 81 v l := by
     intro v l ho hap
     have h1 := HKP.out v l ho hap
     refine h1.keep fun k hk => ?_
     obtain ⟨e1, _, _⟩ := HNK.out v l ho hap k hk
     have hlt := (h1.block k hk).2
     rw [Below.heap_alloc _ _ _ (by simp; exact hlt), Below.heap_setCell _ _ _ _ e1]
    have hsrc : Lim ((wr.setCell ⟨gd, 0, none⟩ (.slice (some ⟨gq, 0, none⟩) m cq2)).alloc (.cells #[.int .u32 (r : Int)] 81)) (wr.heap.size + 1) (some ⟨wr.heap.size, 0, none⟩) 1 1 [r] := by
     have h1 : Buf ((wr.setCell ⟨gd, 0, none⟩ (.slice (some ⟨gq, 0, none⟩) m cq2)).alloc (.cells #[.int .u32 (r : Int)] 81)) wr.heap.size 81 [r] := by
      refine ⟨?_, Bd.nil.cons (by omega)⟩
      have := Bk.alloc_ (wr.setCell ⟨gd, 0, none⟩ (.slice (some ⟨gq, 0, none⟩) m cq2)) 81 #[.int .u32 (r : Int)]
      simpa [u32s] using this
     exact h1.lim (n := 1) (c := 1) (by omega) (by omega) (by omega) (by simp)
    have hr4 := keep4 _ _ HD.out.r HD.out.qr
    have hb4 := keep4 _ _ HD.out.b HD.out.qb
    rw [HVR.out] at hr4
    have hr5 := hr4.cut (m := 0) (Nat.zero_le _)
    rw [List.take_zero] at hr5
    have hfr4 : Fr (fun k => k = gd ∨ k = gq) w ((wr.setCell ⟨gd, 0, none⟩ (.slice (some ⟨gq, 0, none⟩) m cq2)).alloc (.cells #[.int .u32 (r : Int)] 81)) := (HFR.out.setCell (fun _ => .inl rfl) _ _).alloc _
    have HBQ4 := Lib.hid hbq4
    have HK4 := Lib.hid hk4
    have HSRC := Lib.hid hsrc
    have HR5 := Lib.hid hr5
    have HB4 := Lib.hid hb4
    have HFR4 := Lib.hid hfr4
    clear hbq3 hbq4 hk4 keep4 hsrc hr4 hr5 hb4 hfr4
    go_wp2_with (at_builtin; refine wpList_append_u32 _ rfl (.tmp 54) (.tmp 56) _ rfl base 81 i0 Tryz.underlying22 hi0 hz0 hz1 hz2 (.slice Ar 0 cr) [] rfl HR5.out (wr.heap.size + 1) (some ⟨wr.heap.size, 0, none⟩) 1 1 [r] rfl HSRC.out (by simp) (by simp; have := HFR.out.size; omega) ?_; intro v5 w5 hown5 hgrow5 hat5)
    obtain ⟨A5, c5, hv5, hl5⟩ := hown5.lim (Nat.le_refl _)
    have el : ([] ++ [r] : List Nat).length = 1 := rfl
    rw [el] at hv5 hl5
    rw [hv5] at hown5 hat5
    rw [hv5]
    clear hv5 el
    have hown4 : (Value.slice Ar 0 cr).ownBlock = vr.ownBlock := by rw [HVR.out]; cases Ar <;> rfl
    rw [hown4] at hgrow5 hat5
    have hnr := HNK.out _ _ HD.out.r HD.out.qr
    have hnb := HNK.out _ _ HD.out.b HD.out.qb
    have hsz4 : ((wr.setCell ⟨gd, 0, none⟩ (.slice (some ⟨gq, 0, none⟩) m cq2)).alloc (.cells #[.int .u32 (r : Int)] 81)).heap.size = wr.heap.size + 1 := by simp
    rw [hsz4] at hat5
    have hk5 : Bk w5 gd 125 #[.slice (some ⟨gq, 0, none⟩) m cq2, vr, vb] := (hgrow5.block gd HK4.out.lt (fun e => (hnr gd e.symm).1 rfl)).trans HK4.out
    have hb5 : Buf w5 gq 81 (Q ++ O.drop n) := ⟨(hgrow5.block gq HBQ4.out.lt (fun e => (hnr gq e.symm).2.1 rfl)).trans HBQ4.out.bk, HBQ4.out.bd⟩
    have hvb5 : OwnL w5 base 81 vb lb := HB4.out.keep fun k hk => hgrow5.block k (HB4.out.block k hk).2 (fun e => HD.out.rb k e.symm hk)
    have hwr := HFR.out.size
    have hfr5 : Fr (DS gd vq vr vb) w w5 := by
     have h1 : Fr (DS gd vq vr vb) w ((wr.setCell ⟨gd, 0, none⟩ (.slice (some ⟨gq, 0, none⟩) m cq2)).alloc (.cells #[.int .u32 (r : Int)] 81)) :=
      ⟨HFR4.out.os, HFR4.out.tape, HFR4.out.output, HFR4.out.size, fun k hk hs => HFR4.out.block k hk (fun h => h.elim (fun e => hs (.inl e)) (fun e => hs (.inr (.inl (e ▸ HGQ.out (e ▸ hk))))))⟩
     exact h1.grown hgrow5 (fun k _ e => .inr (.inr (.inl e)))
    have hcd5 : w5.cell? ⟨gd, 1, none⟩ = some (.slice Ar nr cr) := by
     have := hk5.cell 1
     rw [HVR.out] at this
     simpa using this
    have hfd5 := hk5.frozen 1
    have HL5 := Lib.hid hl5
    have HK5 := Lib.hid hk5
    have HB5 := Lib.hid hb5
    have HVB5 := Lib.hid hvb5
    have HFR5 := Lib.hid hfr5
    have HOWN5 := Lib.hid hown5
    have HAT5 := Lib.hid hat5
    have HNR := Lib.hid hnr
    have HNB := Lib.hid hnb
    clear hl5 hk5 hb5 hvb5 hfr5 hown5 hat5 hgrow5 hown4 hsz4 hnr hnb
    go_wp2_with fail
    refine (trim_any _ _ _ _ _ _ HL5.out).mono ?_
    rintro e w' ⟨rfl, m2, rfl, hm2, hv2, hnorm2⟩
    go_wp2
    go_end0
    have hgq4 : gq < wr.heap.size := hbuf2.lt
    have hq : val Q = val a / y ∧ r = val a % y := by
     have h1 := hval2.out
     have e1 : val a = r + y * val Q := by rw [Nat.mul_comm]; omega
     rw [e1, Nat.add_mul_div_left _ _ hy0, Nat.div_eq_of_lt hr, Nat.add_mul_mod_self_left, Nat.mod_eq_of_lt hr]
     exact ⟨by omega, rfl⟩
    have hA5 : ∀ k, (Value.slice A5 m2 c5).ownBlock = some k → vr.ownBlock = some k ∨ k = wr.heap.size + 1 := by
     intro k hk
     have e1 : (Value.slice A5 1 c5).ownBlock = (Value.slice A5 m2 c5).ownBlock := by cases A5 <;> rfl
     rcases HAT5.out with h | h
     · left; rw [← h, e1]; exact hk
     · right
       rw [e1, hk] at h
       exact Option.some.inj h
    refine ⟨rfl, .slice (some ⟨gq, 0, none⟩) m cq2, .slice A5 m2 c5, vb, Q.take m, ([] ++ [r] : List Nat).take m2, lb, ⟨?_, ?_, ?_, ?_, ?_, ?_, ?_⟩, hnorm, ?_, hnorm2, ?_, ?_, ?_⟩
    · have h1 := HK5.out.set_ 1 (.slice A5 m2 c5)
      simpa using h1
    · refine .inr ⟨gq, m, cq2, Q ++ O.drop n, rfl, hbgq, HB5.out.other hne _, ?_, by omega, hc9, ?_⟩
      · rw [List.length_append, hQ2.out, List.length_drop, HOL.out]; omega
      · rw [List.take_append_of_le_length (by rw [hQ2.out]; exact hm)]
    · refine (HOWN5.out.cut hm2).keep fun k hk => Below.heap_setCell _ _ _ _ ?_
      rcases hA5 k hk with h | h
      · exact (HNR.out k h).1
      · show k ≠ gd; omega
    · exact HVB5.out.keep fun k hk => Below.heap_setCell _ _ _ _ (HNB.out k hk).1
    · intro k hk hk2
      have e1 : gq = k := by simpa [Value.ownBlock] using hk
      rcases hA5 k hk2 with h | h
      · exact (HNR.out k h).2.1 e1.symm
      · omega
    · intro k hk hk2
      have e1 : gq = k := by simpa [Value.ownBlock] using hk
      exact (HNB.out k hk2).2.1 e1.symm
    · intro k hk hk2
      rcases hA5 k hk with h | h
      · exact HD.out.rb k h hk2
      · have := (HNB.out k hk2).2.2; omega
    · rw [hv, hq.1]
    · rw [hv2]
      have : val ([] ++ [r]) = r := by simp [val]
      rw [this, hq.2]
    · exact HFR5.out.setCell (fun _ => .inl rfl) _ _
    · intro k hk
      rcases hk with h | h | h | h
      · exact .inl (.inl h)
      · have e1 : gq = k := by simpa [Value.ownBlock] using h
        rcases Nat.lt_or_ge k w.heap.size with h2 | h2
        · exact .inl (.inr (.inl (e1 ▸ HGQ.out (e1.symm ▸ h2))))
        · exact .inr h2
      · rcases hA5 k h with h2 | h2
        · exact .inl (.inr (.inr (.inl h2)))
        · exact .inr (by omega)
      · exact .inl (.inr (.inr (.inr h)))
  · obtain ⟨q, rfl⟩ : ∃ q : Nat, i = (q : Int) := ⟨i.toNat, by omega⟩
    rw [show ((q : Int) + 1).toNat = q + 1 from by omega] at hbuf hQ hval
    have hqn : q < n := by omega
    obtain ⟨ba, oa, x, hAe, hba, hx, hxb, hcx0⟩ := ha.at_ (k := q) hqn
    have hbq := HOQ.out ba oa hAe hba
    obtain ⟨ba', oa', x', hAe', hba', hx', _, hcx⟩ := ha2.at_ (k := q) hqn
    rw [hAe] at hAe'
    simp only [Option.some.injEq, Addr.mk.injEq, and_true] at hAe'
    obtain ⟨rfl, rfl⟩ := hAe'
    obtain rfl : x' = x := by rw [hx] at hx'; exact (Option.some.inj hx').symm
    have hcx2 : wr.cell? ⟨ba, oa + q, none⟩ = some (.int .u32 (x' : Int)) := (World.cell?_of_block (a := ⟨ba, oa + q, none⟩) (hon.block ba hbq)).trans hcx
    have hcd : wr.cell? ⟨gd, 0, none⟩ = some (.slice (some ⟨gq, 0, none⟩) n cq2) := by
     have := (hon.bk HK2.out (Ne.symm hne)).cell 0
     simpa using this
    have hgdq : gd ≠ gq := Ne.symm hne
    have hqO : q < O.length := by rw [HOL.out]; omega
    have hg1 := limb_get (Q := Q) (T := O.drop n) hqO (List.getElem?_eq_getElem hqO)
    obtain ⟨z, hz, hcz⟩ := hbuf.cell (k := q) (List.getElem?_eq_some_iff.1 hg1).1
    have hfz := hbuf.frozen q
    have HX := Lib.hid hx
    have HA := Lib.hid hAe
    subst hAe
    have hs1 : ∀ (W : World) (o : Nat) (u : Value), (W.setCell ⟨gq, o, none⟩ u).cell? ⟨gd, 0, none⟩ = W.cell? ⟨gd, 0, none⟩ := fun W o u => World.cell?_setCell_other W _ _ u (fun e => hne (congrArg Addr.block e))
    have hs2 : ∀ (W : World) (o : Nat) (u : Value), (W.setCell ⟨gq, o, none⟩ u).cell? ⟨ba, oa + q, none⟩ = W.cell? ⟨ba, oa + q, none⟩ := fun W o u => World.cell?_setCell_other W _ _ u (fun e => hbq (congrArg Addr.block e).symm)
    clear hx hx' hg1 hz hcx hcx0 HA
    go_wp2_with fail
    go_region_held3 (fun w' => w'.cell? ⟨gd, 0, none⟩ = some (.slice (some ⟨gq, 0, none⟩) n cq2) ∧ w'.cell? ⟨ba, oa + q, none⟩ = some (.int .u32 (x' : Int))) (go_keep)
     (first | (go_at_call 144; refine (div32_any _ _ _ _ hxb hyb hr).mono ?_; rintro e w' ⟨⟨qd, r', rfl, hqd, hr', hsum⟩, k9, rfl⟩))
    go_wp2
    go_roundw
    case rel =>
     refine ⟨(q : Int) - 1, r', qd :: Q, by omega, by omega, by go_num, rfl, hr', ?_, ?_, ?_, (hon.drewN _).setCell _ _⟩
     · rw [show ((q : Int) - 1 + 1).toNat = q from by omega, ← limb_set (Q := Q) (T := O.drop n) hqO]
       exact (hbuf.drewN _).set_ q qd hqd
     · show (qd :: Q).length = _
       rw [List.length_cons, hQ.out]; omega
     · show val (qd :: Q) * y + r' = val (a.drop _)
       rw [show ((q : Int) - 1 + 1).toNat = q from by omega, drop_get HX.out]
       exact div_step hsum.out hval.out
    case measure => simp [intOf]
end Go.Proofs.YthlfhfkfjefidaaGreat
/- The walk of divide where the dividend is the less, and where the divisor is one limb. -/
namespace Go.Proofs.YthlfhfkfjefidaaGreat
open Go.RowKit
theorem DivS.drewN {w : World} {gd base : Nat} {vq vr vb : Value} {lq lr lb : List Nat} (h : DivS w gd base vq vr vb lq lr lb) (k : Nat) : DivS (w.drewN k) gd base vq vr vb lq lr lb :=
 ⟨h.bk, h.q.keep fun _ _ => rfl, h.r.keep fun _ _ => rfl, h.b.keep fun _ _ => rfl, h.qr, h.qb, h.rb⟩
theorem DivR.drewN {gd base : Nat} {vq vr vb : Value} {q r : Nat} {w : World} {k : Nat} {e : Ending} {w' : World} (h : DivR gd base vq vr vb q r (w.drewN k) e w') : DivR gd base vq vr vb q r w e w' := by
 obtain ⟨he, vq', vr', vb', lq, lr, lb, hD, h1, h2, h3, h4, hf, hk⟩ := h
 exact ⟨he, vq', vr', vb', lq, lr, lb, hD, h1, h2, h3, h4, ⟨hf.os, hf.tape, hf.output, hf.size, hf.block⟩, hk⟩
set_option maxRecDepth 100000 in
set_option maxHeartbeats 4000000 in
theorem divide_limb (gd base n c m c2 : Nat) (A A2 : Option Addr) (a b : List Nat) (vq vr vb : Value) (lq lr lb : List Nat) (w : World) (hD : DivS w gd base vq vr vb lq lr lb) (hbase : base ≤ w.heap.size) (hgb : base ≤ gd)
 (ha : Lim w w.heap.size A n c a) (hoff : 0 < n → Off A (DS gd vq vr vb)) (na : Norm a) (hb : Lim w w.heap.size A2 m c2 b) (nb : Norm b) (hm1 : m = 1) (hle : val b ≤ val a) (hn : n ≤ 1073741824) :
 Calls Tryz.prog 106 #[.pointer (some ⟨gd, 0, none⟩), .slice A n c, .slice A2 m c2] w (DivR gd base vq vr vb (val a / val b) (val a % val b) w) := by
 have hbl := hb.len
 obtain ⟨y, rfl⟩ : ∃ y, b = [y] := by
  match b, hbl.trans hm1 with
  | [y], _ => exact ⟨y, rfl⟩
 have hvy : val [y] = y := by simp [val]
 have hyb : y < 4294967296 := hb.bd y (by simp)
 have hy0 : 0 < y := by
  have := norm_val_pos nb (by simp)
  omega
 have h0 : 0 < n := by
  rcases Nat.eq_zero_or_pos n with h | h
  · have : a = [] := List.eq_nil_of_length_eq_zero (by rw [ha.len, h])
    rw [this, val_nil] at hle; omega
  · exact h
 obtain ⟨b0, o0, x0, hAe, hb0, hx0, _, hc0⟩ := hb.at_ (k := 0) (by omega)
 obtain rfl : y = x0 := by simpa using hx0
 rw [Nat.add_zero] at hc0
 have hcmp := fun k => compareLimbs_any A A2 n c m c2 a [y] w.heap.size w.heap.size (w.drewN k) (ha.drewN k) (hb.drewN k) na nb
 have hge : decide (cmpN (val a) (val [y]) < 0) = false := by
  rcases Nat.eq_or_lt_of_le hle with h | h
  · rw [h, cmpN_self]; rfl
  · rw [cmpN_gt h]; rfl
 rw [hvy]
 have hby := fun k => byLimb_any gd base n c y A a vq vr vb lq lr lb (w.drewN k) (hD.drewN k) hbase hgb (ha.drewN k) hoff hy0 hyb h0 hn
 generalize cmpN (val a) (val [y]) = C at hcmp hge
 have HCMP := Lib.hid hcmp
 have HBY := Lib.hid hby
 subst hAe
 subst hm1
 clear hcmp hby hx0 hvy hbl hD ha hb hle
 go_enter Tryz.func106, Tryz.ntmps106
 go_wp2_with (go_at_call 61; refine (HCMP.out 0).mono ?_; rintro e w' ⟨rfl, k, rfl⟩)
 refine (HBY.out _).mono ?_
 rintro e w' hR
 have he := hR.1
 subst he
 have HR := Lib.hid hR
 clear hR
 go_wp2
 refine bodyPost_ret (results_none rfl _ _ _) rfl ?_
 exact HR.out.drewN
set_option maxRecDepth 100000 in
set_option maxHeartbeats 4000000 in
theorem divide_lt (gd base n c m c2 : Nat) (A A2 : Option Addr) (a b : List Nat) (vq vr vb : Value) (lq lr lb : List Nat) (w : World) (hD : DivS w gd base vq vr vb lq lr lb) (hbase : base ≤ w.heap.size)
 (ha : Lim w w.heap.size A n c a) (hoff : 0 < n → Off A (DS gd vq vr vb)) (na : Norm a) (hb : Lim w w.heap.size A2 m c2 b) (nb : Norm b) (hlt : val a < val b) (hn : n ≤ 1073741824) :
 Calls Tryz.prog 106 #[.pointer (some ⟨gd, 0, none⟩), .slice A n c, .slice A2 m c2] w (DivR gd base vq vr vb (val a / val b) (val a % val b) w) := by
 obtain ⟨i0, hi0, hz0, hz1, hz2⟩ := info_parts info_u32
 have hcmp := compareLimbs_any A A2 n c m c2 a b w.heap.size w.heap.size w ha hb na nb
 have hge : decide (cmpN (val a) (val b) < 0) = true := by rw [cmpN_lt hlt]; rfl
 generalize cmpN (val a) (val b) = C at hcmp hge
 rw [Nat.div_eq_of_lt hlt, Nat.mod_eq_of_lt hlt]
 obtain ⟨Aq, cq, hvq⟩ := hD.q.form
 obtain ⟨Ar, cr, hvr⟩ := hD.r.form
 generalize hnq : lq.length = nq at hvq
 generalize lr.length = nr at hvr
 have d0 := hD.bk.cell 0
 have d1 := hD.bk.cell 1
 simp only [List.getElem?_toArray, List.getElem?_cons_zero, List.getElem?_cons_succ, hvq, hvr] at d0 d1
 have f0 := hD.bk.frozen 0
 have f1 := hD.bk.frozen 1
 have HCMP := Lib.hid hcmp
 have HD := Lib.hid hD
 have HVQ := Lib.hid hvq
 have HVR := Lib.hid hvr
 have HOFF := Lib.hid hoff
 clear hcmp hnq hD hvq hvr hoff hb
 go_enter Tryz.func106, Tryz.ntmps106
 go_wp2_with fail
 refine HCMP.out.mono ?_
 rintro e w' ⟨rfl, k, rfl⟩
 have hgdlt := HD.out.bk.lt
 have hk4 : Bk ((w.drewN k).setCell ⟨gd, 0, none⟩ (.slice Aq 0 cq)) gd 125 #[.slice Aq 0 cq, vr, vb] := by
  have h1 := (HD.out.bk.drewN k).set_ 0 (.slice Aq 0 cq)
  simpa using h1
 have hne : ∀ (v : Value) (l : List Nat), OwnL w base 81 v l → ∀ j, v.ownBlock = some j → j ≠ gd := fun v l ho j hj e => ho.ne_bk HD.out.bk (by decide) (by rw [hj, e])
 have keep4 : ∀ (v : Value) (l : List Nat), OwnL w base 81 v l → OwnL ((w.drewN k).setCell ⟨gd, 0, none⟩ (.slice Aq 0 cq)) base 81 v l := by
  intro v l ho
  exact ho.keep fun j hj => Below.heap_setCell (w.drewN k) _ _ _ (hne v l ho j hj)
 have hq4 := keep4 _ _ HD.out.q
 rw [HVQ.out] at hq4
 have hq5 := hq4.cut (m := 0) (Nat.zero_le _)
 rw [List.take_zero] at hq5
 have hr4 := keep4 _ _ HD.out.r
 rw [HVR.out] at hr4
 have hr5 := hr4.cut (m := 0) (Nat.zero_le _)
 rw [List.take_zero] at hr5
 have hb4 := keep4 _ _ HD.out.b
 have hfr4 : Fr (DS gd vq vr vb) w ((w.drewN k).setCell ⟨gd, 0, none⟩ (.slice Aq 0 cq)) := ((Fr.refl _ w).drewN k).setCell (fun _ => .inl rfl) _ _
 have hsrc := ha.fr hfr4 HOFF.out
 have hsz4 : ((w.drewN k).setCell ⟨gd, 0, none⟩ (.slice Aq 0 cq)).heap.size = w.heap.size := by simp
 have hown4 : (Value.slice Ar 0 cr).ownBlock = vr.ownBlock := by rw [HVR.out]; cases Ar <;> rfl
 have hc5 : ∀ w5, ((w.drewN k).setCell ⟨gd, 0, none⟩ (.slice Aq 0 cq)).grownBy w5 (.slice Ar 0 cr : Value).ownBlock → Bk w5 gd 125 #[.slice Aq 0 cq, vr, vb] ∧ w5.cell? ⟨gd, 1, none⟩ = some (.slice Ar nr cr) ∧ w5.frozen? ⟨gd, 1, none⟩ = false := by
  intro w5 hg
  rw [hown4] at hg
  have h1 : Bk w5 gd 125 #[.slice Aq 0 cq, vr, vb] := (hg.block gd hk4.lt (fun e => hne vr lr HD.out.r gd e.symm rfl)).trans hk4
  have h2 := h1.cell 1
  rw [HVR.out] at h2
  exact ⟨h1, by simpa using h2, h1.frozen 1⟩
 have HC5 := Lib.hid hc5
 have HOWN4 := Lib.hid hown4
 have HSZ4 := Lib.hid hsz4
 have HK4 := Lib.hid hk4
 have HNE := Lib.hid hne
 have HQ5 := Lib.hid hq5
 have HR5 := Lib.hid hr5
 have HB4 := Lib.hid hb4
 have HFR4 := Lib.hid hfr4
 have HSRC := Lib.hid hsrc
 have HA := Lib.hid ha
 clear hk4 hne keep4 hq4 hq5 hr4 hr5 hb4 hfr4 hsrc hsz4 ha hc5 hown4
 go_wp2_with (at_builtin; refine wpList_append_u32 _ rfl (.tmp 25) (.tmp 26) _ rfl base 81 i0 Tryz.underlying22 hi0 hz0 hz1 hz2 (.slice Ar 0 cr) [] rfl HR5.out _ A n c a rfl HSRC.out (by simp; omega) (by rw [HSZ4.out]; exact hbase) ?_; intro v5 w5 hown5 hgrow5 hat5; obtain ⟨hk5, hcd5, hfd5⟩ := HC5.out w5 hgrow5; obtain ⟨A5, c5, hv5, hl5⟩ := hown5.lim (Nat.le_refl _); subst hv5; have HOWN5 := Lib.hid hown5; have HGROW5 := Lib.hid hgrow5; have HAT5 := Lib.hid hat5; have HK5 := Lib.hid hk5; have HL5 := Lib.hid hl5; clear hown5 hgrow5 hat5 hk5 hl5)
 refine bodyPost_ret (results_none rfl _ _ _) rfl ?_
 have hgrow5 := HGROW5.out
 rw [HOWN4.out] at hgrow5
 have hat5 := HAT5.out
 rw [HOWN4.out, HSZ4.out] at hat5
 have hnr := HNE.out _ _ HD.out.r
 have hA5 : ∀ j, (Value.slice A5 ([] ++ a).length c5).ownBlock = some j → vr.ownBlock = some j ∨ j = w.heap.size := by
  intro j hj
  rcases hat5 with h | h
  · left; rw [← h]; exact hj
  · right
    rw [hj] at h
    exact Option.some.inj h
 have hqo : (Value.slice Aq 0 cq).ownBlock = vq.ownBlock := by rw [HVQ.out]; cases Aq <;> rfl
 have hkeep : ∀ (v : Value) (l : List Nat), OwnL ((w.drewN k).setCell ⟨gd, 0, none⟩ (.slice Aq 0 cq)) base 81 v l → (∀ j, v.ownBlock = some j → j ≠ gd ∧ vr.ownBlock ≠ some j) →
  OwnL (w5.setCell ⟨gd, 1, none⟩ (.slice A5 ([] ++ a).length c5)) base 81 v l := by
  intro v l ho hj
  refine ho.keep fun j hv => ?_
  rw [Below.heap_setCell _ _ _ _ (hj j hv).1]
  exact hgrow5.block j (ho.block j hv).2 (fun e => (hj j hv).2 e.symm)
 refine ⟨rfl, .slice Aq 0 cq, .slice A5 ([] ++ a).length c5, vb, [], [] ++ a, lb, ⟨?_, ?_, ?_, ?_, ?_, ?_, ?_⟩, norm_nil, rfl, na, rfl, ?_, ?_⟩
 · have h1 := HK5.out.set_ 1 (.slice A5 ([] ++ a).length c5)
   simpa using h1
 · exact hkeep _ _ HQ5.out fun j hj => ⟨by rw [hqo] at hj; exact HNE.out _ _ HD.out.q j hj, by rw [hqo] at hj; exact HD.out.qr j hj⟩
 · refine HOWN5.out.keep fun j hj => Below.heap_setCell _ _ _ _ ?_
   rcases hA5 j hj with h | h
   · exact hnr j h
   · show j ≠ gd; omega
 · exact hkeep _ _ HB4.out fun j hj => ⟨HNE.out _ _ HD.out.b j hj, fun e => HD.out.rb j e hj⟩
 · intro j hj hj2
   rw [hqo] at hj
   rcases hA5 j hj2 with h | h
   · exact HD.out.qr j hj h
   · have := (HD.out.q.block j hj).2; omega
 · intro j hj hj2
   rw [hqo] at hj
   exact HD.out.qb j hj hj2
 · intro j hj hj2
   rcases hA5 j hj with h | h
   · exact HD.out.rb j h hj2
   · have := (HD.out.b.block j hj2).2; omega
 · exact (HFR4.out.grown hgrow5 (fun j _ e => .inr (.inr (.inl e)))).setCell (fun _ => .inl rfl) _ _
 · intro j hj
   rcases hj with h | h | h | h
   · exact .inl (.inl h)
   · rw [hqo] at h
     exact .inl (.inr (.inl h))
   · rcases hA5 j h with h2 | h2
     · exact .inl (.inr (.inr (.inl h2)))
     · exact .inr (by omega)
   · exact .inl (.inr (.inr (.inr h)))
end Go.Proofs.YthlfhfkfjefidaaGreat
/- The leading zeros of a limb; the plain steps of a long division. -/
namespace Go.Proofs.YthlfhfkfjefidaaGreat
open Go.RowKit
theorem bitLen_pow : ∀ (x : Nat), x < 2 ^ 64 → x < 2 ^ Lib.bitLen x := by
 intro x
 induction x using Nat.strongRecOn with
 | _ x ih =>
   intro hx
   by_cases h0 : x = 0
   · subst h0; exact Nat.two_pow_pos _
   · rw [Lib.bitLen_half x h0 hx, Nat.pow_add]
     have := ih (x / 2) (by omega) (by omega)
     omega
theorem lz_any (t : Nat) (w : World) (h0 : 0 < t) (h1 : t < 4294967296) :
 Calls Tryz.prog 130 #[.int .u32 (t : Int)] w fun e w' => w = w' ∧ ∃ s : Nat, e = .returned (.int .i64 (s : Int)) ∧ s < 32 ∧ t * 2 ^ s < 4294967296 := by
 refine (Tryz.bits_LeadingZeros32 (t : Int) w (by omega) (by omega)).mono ?_
 rintro e w' ⟨he, hw⟩
 rw [Int.toNat_natCast] at he
 have hle := Any.bitLen_le32 (t : Int) (by omega) (by omega)
 rw [Int.toNat_natCast] at hle
 have hp := bitLen_pow t (by omega)
 have hpos : 1 ≤ Lib.bitLen t := by
  rw [Lib.bitLen_half t (by omega) (by omega)]; omega
 refine ⟨hw.symm, 32 - Lib.bitLen t, ?_, by omega, ?_⟩
 · rw [he]; exact ret_int (by omega)
 · have h2 : t * 2 ^ (32 - Lib.bitLen t) < 2 ^ Lib.bitLen t * 2 ^ (32 - Lib.bitLen t) := Nat.mul_lt_mul_of_pos_right hp (Nat.two_pow_pos _)
   rwa [← Nat.pow_add, show Lib.bitLen t + (32 - Lib.bitLen t) = 32 from by omega] at h2
theorem lastOr_get : ∀ (l : List Nat) (p k x : Nat), l[k]? = some x → l.length = k + 1 → lastOr p l = x
 | [], _, _, _, h, _ => by simp at h
 | [a], _, 0, x, h, _ => by simp at h; exact h
 | [a], _, k + 1, x, h, hl => by simp at hl
 | a :: b :: r, p, 0, x, h, hl => by simp at hl
 | a :: b :: r, p, k + 1, x, h, hl => by
   simp only [List.getElem?_cons_succ] at h
   exact lastOr_get (b :: r) a k x h (by simpa using hl)
theorem shl_exact {s : Nat} (hs : s < 32) {X : List Nat} {k t : Nat} (ht : X[k]? = some t) (hl : X.length = k + 1) (hr : t * 2 ^ s < 4294967296) : val (shlL s 0 X) = val X * 2 ^ s := by
 have h := val_shlL (s := s) (by omega) X 0
 rw [lastOr_get X 0 k t ht hl] at h
 have e : t / 2 ^ (32 - s) = 0 := by
  apply Nat.div_eq_of_lt
  have e1 : (4294967296 : Nat) = 2 ^ (32 - s) * 2 ^ s := by rw [← Nat.pow_add, Nat.sub_add_cancel (by omega)]
  rw [e1] at hr
  exact Nat.lt_of_mul_lt_mul_right hr
 rw [e, Nat.mul_zero, Nat.add_zero, Nat.zero_div, Nat.zero_add] at h
 exact h
theorem long_round {R P Q : List Nat} {i m q V A : Nat} (hi : i + m + 1 ≤ R.length) (hP : P.length = m + 1) (hA : A = val R + W (i + 1) * (val Q * V)) (hv : val P + q * V = val ((R.drop i).take (m + 1))) (hz : val (R.drop (i + m + 1)) = 0) (hlt : val P < V) :
 A = val (R.take i ++ P ++ R.drop (i + m + 1)) + W i * (val (q :: Q) * V) ∧ val ((R.take i ++ P ++ R.drop (i + m + 1)).drop i) < V := by
 have hl : (R.take i).length = i := by rw [List.length_take]; omega
 have e1 : val R = val (R.take i) + W i * (val ((R.drop i).take (m + 1)) + W (m + 1) * val (R.drop (i + m + 1))) := by
  rw [val_take_drop R i (by omega), val_take_drop (R.drop i) (m + 1) (by rw [List.length_drop]; omega), List.drop_drop, Nat.add_assoc i m 1]
 have e2 : val (R.take i ++ P ++ R.drop (i + m + 1)) = val (R.take i) + W i * val P := by
  rw [val_append, val_append, hl, hz, Nat.mul_zero, Nat.add_zero]
 constructor
 · rw [hA, e1, e2, hz, Nat.mul_zero, Nat.add_zero, ← hv, W_succ, val_cons, Nat.add_mul, Nat.mul_add, Nat.mul_add, Nat.mul_comm 4294967296, Nat.mul_assoc (W i), Nat.mul_assoc 4294967296]
   omega
 · rw [List.append_assoc, List.drop_left' hl, val_append, hz, Nat.mul_zero, Nat.add_zero]; exact hlt
theorem long_pre {R : List Nat} {i m V : Nat} (hR : Bd R) (hi : i + m + 1 ≤ R.length) (hlt : val (R.drop (i + 1)) < V) (hV : V < W m) : val ((R.drop i).take (m + 1)) < V * 4294967296 ∧ val (R.drop (i + m + 1)) = 0 := by
 have hiR : i < R.length := by omega
 have h1 : val (R.drop i) = R[i] + 4294967296 * val (R.drop (i + 1)) := by rw [List.drop_eq_getElem_cons hiR, val_cons]
 have h2 := hR.get hiR
 have h3 : val (R.drop i) = val ((R.drop i).take (m + 1)) + W (m + 1) * val ((R.drop i).drop (m + 1)) := val_take_drop (R.drop i) (m + 1) (by rw [List.length_drop]; omega)
 have h4 : val (R.drop (i + 1)) = val ((R.drop (i + 1)).take m) + W m * val ((R.drop (i + 1)).drop m) := val_take_drop (R.drop (i + 1)) m (by rw [List.length_drop]; omega)
 rw [List.drop_drop] at h4
 have hz : val (R.drop (i + 1 + m)) = 0 := by
  rcases Nat.eq_zero_or_pos (val (R.drop (i + 1 + m))) with h | h
  · exact h
  · have : W m * 1 ≤ W m * val (R.drop (i + 1 + m)) := Nat.mul_le_mul_left _ h
    omega
 refine ⟨by omega, by rw [show i + m + 1 = i + 1 + m from by omega]; exact hz⟩
theorem long_end {a b q R x e s : Nat} (hA : a * 2 ^ s = R + q * (b * 2 ^ s)) (hR : R < b * 2 ^ s) (hx : x * 2 ^ s + e = R) (he : e < 2 ^ s) : q = a / b ∧ x = a % b := by
 have hp := Nat.two_pow_pos s
 generalize 2 ^ s = k at *
 have h1 : R = (a - q * b) * k := by rw [Nat.sub_mul, Nat.mul_assoc, hA]; omega
 have hle : q * b ≤ a := by
  have : q * b * k ≤ a * k := by rw [Nat.mul_assoc, hA]; omega
  exact Nat.le_of_mul_le_mul_right this hp
 have h2 : a - q * b < b := by
  rw [h1] at hR
  exact Nat.lt_of_mul_lt_mul_right hR
 have h3 : x = a - q * b := by
  rw [h1] at hx
  rcases Nat.lt_trichotomy x (a - q * b) with h | h | h
  · have : (x + 1) * k ≤ (a - q * b) * k := Nat.mul_le_mul_right _ h
    rw [Nat.add_mul, Nat.one_mul] at this; omega
  · exact h
  · have : (a - q * b + 1) * k ≤ x * k := Nat.mul_le_mul_right _ h
    rw [Nat.add_mul, Nat.one_mul] at this; omega
 have h4 : a = (a - q * b) + b * q := by rw [Nat.mul_comm b]; omega
 have hb : 0 < b := by omega
 constructor
 · rw [h4, Nat.add_mul_div_left _ _ hb, Nat.div_eq_of_lt h2]; omega
 · rw [h3]
   conv => rhs; rw [h4]
   rw [Nat.add_mul_mod_self_left, Nat.mod_eq_of_lt h2]
end Go.Proofs.YthlfhfkfjefidaaGreat
/- The walk of divide where the divisor has several limbs. -/
namespace Go.Proofs.YthlfhfkfjefidaaGreat
open Go.RowKit
theorem takeOff_m (g off c m d gv : Nat) (O V : List Nat) (w : World) (hO0 : Buf w g 81 O) (hoff : off + m + 1 ≤ O.length) (hb0 : Buf w gv 81 V) (hne : gv ≠ g) (hm2 : 2 ≤ m) (hmV : m ≤ V.length) (hcm : m + 1 ≤ c) (hmd : m ≤ d) (hm : m ≤ 1073741820)
 (htop : 0 < V.getD (m - 1) 0) (hUV : val ((O.drop off).take (m + 1)) < val (V.take m) * 4294967296) :
 Calls Tryz.prog 133 #[.slice (some ⟨g, off, none⟩) (m + 1) c, .slice (some ⟨gv, 0, none⟩) m d] w (TakeR g off m O (V.take m) w) := by
 obtain ⟨k, rfl⟩ : ∃ k, m = k + 2 := ⟨m - 2, by omega⟩
 exact takeOff_any g off c k d gv O V w hO0 hoff hb0 hne hmV hcm hmd (by omega) htop hUV
theorem sl_drop_take {R T : List Nat} {i m : Nat} (h : i + m ≤ R.length) : ((R ++ T).drop i).take m = (R.drop i).take m := by
 rw [List.drop_append_of_le_length (by omega), List.take_append_of_le_length (by rw [List.length_drop]; omega)]
theorem sl_splice {R T P : List Nat} {i m : Nat} (h : i + m ≤ R.length) : (R ++ T).take i ++ P ++ (R ++ T).drop (i + m) = (R.take i ++ P ++ R.drop (i + m)) ++ T := by
 rw [List.take_append_of_le_length (by omega), List.drop_append_of_le_length h, List.append_assoc, List.append_assoc, List.append_assoc]
theorem long_init {a b X : List Nat} {n m s : Nat} (ha : Bd a) (hal : a.length = n) (nb : Norm b) (hbl : b.length = m) (hm : 1 ≤ m) (hmn : m ≤ n) (hX : X.length = n + 1) (hXv : val X = val a * 2 ^ s) : val (X.drop (n - m + 1)) < val b * 2 ^ s := by
 have h1 := val_take_drop X (n - m + 1) (by omega)
 have h2 := val_lt ha
 have hbne : b ≠ [] := by rintro rfl; simp at hbl; omega
 have h3 := norm_pos nb hbne
 rw [hal] at h2
 rw [hbl] at h3
 rcases Nat.lt_or_ge (val (X.drop (n - m + 1))) (val b * 2 ^ s) with h | h
 · exact h
 · exfalso
   have h4 : W (m - 1) * 2 ^ s ≤ val (X.drop (n - m + 1)) := Nat.le_trans (Nat.mul_le_mul_right _ h3) h
   have h5 : W (n - m + 1) * (W (m - 1) * 2 ^ s) ≤ W (n - m + 1) * val (X.drop (n - m + 1)) := Nat.mul_le_mul_left _ h4
   rw [← Nat.mul_assoc, ← W_add, show n - m + 1 + (m - 1) = n from by omega] at h5
   have h6 : W n * 2 ^ s ≤ val a * 2 ^ s := by rw [← hXv]; omega
   have h7 := Nat.le_of_mul_le_mul_right h6 (Nat.two_pow_pos s)
   omega
set_option maxRecDepth 100000 in
set_option maxHeartbeats 8000000 in
theorem divide_knuth (gd base n c m c2 : Nat) (A A2 : Option Addr) (a b : List Nat) (vq vr vb : Value) (lq lr lb : List Nat) (w : World) (hD : DivS w gd base vq vr vb lq lr lb) (hbase : base ≤ w.heap.size)
 (ha : Lim w w.heap.size A n c a) (hoff : 0 < n → Off A (DS gd vq vr vb)) (na : Norm a) (hb : Lim w w.heap.size A2 m c2 b) (hoff2 : 0 < m → Off A2 (DS gd vq vr vb)) (nb : Norm b) (hm2 : 2 ≤ m) (hle : val b ≤ val a) (hn : n ≤ 536870912) :
 Calls Tryz.prog 106 #[.pointer (some ⟨gd, 0, none⟩), .slice A n c, .slice A2 m c2] w (DivR gd base vq vr vb (val a / val b) (val a % val b) w) := by
 have hal := ha.len
 have hbl := hb.len
 have hmn : m ≤ n := by
  rcases Nat.lt_or_ge n m with h | h
  · have := norm_len_lt ha.bd nb (by omega); omega
  · exact h
 obtain ⟨b0, o0, t, hAe, hb0, ht, htb, hct⟩ := hb.at_ (k := m - 1) (by omega)
 have htp : 0 < t := by
  rcases Nat.eq_zero_or_pos t with h | h
  · exfalso
    apply nb
    rw [List.getLast?_eq_getElem?, hbl, ht, h]
  · exact h
 have hcmp := compareLimbs_any A A2 n c m c2 a b w.heap.size w.heap.size w ha hb na nb
 have hge : decide (cmpN (val a) (val b) < 0) = false := by
  rcases Nat.eq_or_lt_of_le hle with h | h
  · rw [h, cmpN_self]; rfl
  · rw [cmpN_gt h]; rfl
 generalize cmpN (val a) (val b) = C at hcmp hge
 have hm1 : ((m : Int) == 1) = false := by simp; omega
 obtain ⟨Aq, cq, hvq⟩ := hD.q.form
 obtain ⟨Ar, cr, hvr⟩ := hD.r.form
 obtain ⟨Ab, cb, hvb⟩ := hD.b.form
 generalize lq.length = nq at hvq
 generalize lr.length = nr at hvr
 generalize lb.length = nb' at hvb
 have d2 := hD.bk.cell 2
 simp only [List.getElem?_toArray, List.getElem?_cons_zero, List.getElem?_cons_succ, hvb] at d2
 have f2 := hD.bk.frozen 2
 have hm0 : (m : Int) - 1 = ((m - 1 : Nat) : Int) := by omega
 have HAL := Lib.hid hal
 have HBL := Lib.hid hbl
 have HCMP := Lib.hid hcmp
 have HD := Lib.hid hD
 have HVQ := Lib.hid hvq
 have HVR := Lib.hid hvr
 have HVB := Lib.hid hvb
 have HOFF := Lib.hid hoff
 have HOFF2 := Lib.hid hoff2
 have HT := Lib.hid ht
 have hgdlt := hD.bk.lt
 subst hAe
 clear hcmp hD hvq hvr hvb hoff hoff2 ht hal hbl
 go_enter Tryz.func106, Tryz.ntmps106
 go_wp2_with fail
 refine HCMP.out.mono ?_
 rintro e w' ⟨rfl, k, rfl⟩
 go_wp2_with fail
 refine (lz_any t _ htp htb).mono ?_
 rintro e w' ⟨rfl, s, rfl, hs, hts⟩
 go_wp2_with fail
 have hnv : ∀ (v : Value) (l : List Nat), OwnL w base 81 v l → ∀ j, v.ownBlock = some j → j ≠ gd ∧ j < w.heap.size := fun v l ho j hj => ⟨fun e => ho.ne_bk HD.out.bk (by decide) (by rw [hj, e]), (ho.block j hj).2⟩
 have HNV := Lib.hid hnv
 clear hnv
 have hob : OwnL (w.drewN k) base 81 (.slice Ab nb' cb) lb := by
  have := (HD.out.drewN k).b
  rwa [HVB.out] at this
 refine (shifted_same base m s Ab lb b nb' cb (some ⟨b0, o0, none⟩) c2 (w.drewN k) hob hbase (hb.drewN k) (by omega) (by omega) hs).mono ?_
 rintro e w2 ⟨gb, c3, T3, rfl, hB2, hB2l, hN2, hc39, hbg3, hF2, hor2⟩
 rw [← HVB.out] at hF2 hor2
 clear hob
 -- behind the first shift: by
 have hk2 : Bk w2 gd 125 #[vq, vr, vb] := (hF2.block gd hgdlt (fun e => (HNV.out _ _ HD.out.b gd e).1 rfl)).trans HD.out.bk
 have hgbd : gb ≠ gd := by
  rintro rfl
  have h1 := hB2.bk
  unfold Bk at h1 hk2
  rw [h1] at hk2
  injection hk2 with hk2
  injection hk2 with _ e
  exact absurd e (by decide)
 have hk3 : Bk (w2.setCell ⟨gd, 2, none⟩ (.slice (some ⟨gb, 0, none⟩) m c3)) gd 125 #[vq, vr, .slice (some ⟨gb, 0, none⟩) m c3] := by
  have h1 := hk2.set_ 2 (.slice (some ⟨gb, 0, none⟩) m c3)
  simpa using h1
 have hB3 := hB2.other (p := ⟨gd, 2, none⟩) hgbd (.slice (some ⟨gb, 0, none⟩) m c3)
 have keep3 : ∀ (v : Value) (l : List Nat), OwnL w base 81 v l → Ap vb v → OwnL (w2.setCell ⟨gd, 2, none⟩ (.slice (some ⟨gb, 0, none⟩) m c3)) base 81 v l := by
  intro v l ho hap
  refine ho.keep fun j hj => ?_
  obtain ⟨e1, e2⟩ := HNV.out v l ho j hj
  rw [Below.heap_setCell _ _ _ _ e1]
  exact hF2.block j e2 (fun e => hap j e hj)
 have hq3 := keep3 _ _ HD.out.q HD.out.qb.symm
 have hr3 := keep3 _ _ HD.out.r HD.out.rb.symm
 have hF3 : Fr (DS gd vq vr vb) w (w2.setCell ⟨gd, 2, none⟩ (.slice (some ⟨gb, 0, none⟩) m c3)) :=
  Fr.setCell ((((Fr.refl (DS gd vq vr vb) w).drewN k).trans hF2 (fun x _ e => .inr (.inr (.inr e))))) (fun _ => .inl rfl) _ _
 have hgb : gb < w.heap.size → vb.ownBlock = some gb := by
  intro hlt
  rcases hor2 with h | h
  · exact h
  · exact absurd hlt (Nat.not_lt.2 h)
 have hd2 : w2.cell? ⟨gd, 2, none⟩ = some (.slice Ab nb' cb) := by
  have := hk2.cell 2
  rw [HVB.out] at this
  simpa using this
 have hfd2 := hk2.frozen 2
 have hd1 : w2.cell? ⟨gd, 1, none⟩ = some (.slice Ar nr cr) := by
  have := hk2.cell 1
  rw [HVR.out] at this
  simpa using this
 have HGB := Lib.hid hgb
 have HK3 := Lib.hid hk3
 have HB3 := Lib.hid hB3
 have HQ3 := Lib.hid hq3
 have HR3 := Lib.hid hr3
 have HF3 := Lib.hid hF3
 have HB2L := Lib.hid hB2l
 have HN2 := Lib.hid hN2
 clear hk2 hk3 hB3 hB2 keep3 hq3 hr3 hF3 hF2 hor2 hgb hB2l hN2 d2 f2 hct
 go_wp2_with fail
 have hob : OwnL (w2.setCell ⟨gd, 2, none⟩ (.slice (some ⟨gb, 0, none⟩) m c3)) base 81 (.slice Ar nr cr) lr := by
  have := HR3.out
  rwa [HVR.out] at this
 have hsh := shifted_more base (n + 1) n s Ar lr a nr cr A c (w2.setCell ⟨gd, 2, none⟩ (.slice (some ⟨gb, 0, none⟩) m c3)) hob (Nat.le_trans hbase HF3.out.size) (ha.fr HF3.out HOFF.out) rfl (by omega) (by omega) hs
 rw [show (((n + 1 : Nat)) : Int) = (n : Int) + 1 from by omega] at hsh
 refine hsh.mono ?_
 clear hsh hob
 rintro e w4 ⟨gr, c5, T5, rfl, hR4, hR4l, hN4, hc59, hbg5, hF4, hor4⟩
 rw [← HVR.out] at hF4 hor4
 generalize w2.setCell ⟨gd, 2, none⟩ (.slice (some ⟨gb, 0, none⟩) m c3) = w3 at HK3 HB3 HQ3 HR3 HF3 hF4 hor4
 have hw3 := HF3.out.size
 have hgd3 := HK3.out.lt
 have hgb3 := HB3.out.lt
 have hgbr : vr.ownBlock ≠ some gb := by
  intro e
  have h1 := (HNV.out _ _ HD.out.r gb e).2
  exact HD.out.rb gb e (HGB.out h1)
 have hgrb : gr ≠ gb := by
  rintro rfl
  rcases hor4 with h | h
  · exact hgbr h
  · omega
 have hk4 : Bk w4 gd 125 #[vq, vr, .slice (some ⟨gb, 0, none⟩) m c3] := (hF4.block gd hgd3 (fun e => (HNV.out _ _ HD.out.r gd e).1 rfl)).trans HK3.out
 have hB4 : Buf w4 gb 81 (shlL s 0 b ++ T3) := ⟨(hF4.block gb hgb3 hgbr).trans HB3.out.bk, HB3.out.bd⟩
 have hgrd : gr ≠ gd := by
  rintro rfl
  have h1 := hR4.bk
  unfold Bk at h1 hk4
  rw [h1] at hk4
  injection hk4 with hk4
  injection hk4 with _ e
  exact absurd e (by decide)
 have hq4 : OwnL w4 base 81 vq lq := HQ3.out.keep fun j hj => hF4.block j (HQ3.out.block j hj).2 (fun e => HD.out.qr j hj e)
 have hk5 : Bk (w4.setCell ⟨gd, 1, none⟩ (.slice (some ⟨gr, 0, none⟩) (n + 1) c5)) gd 125 #[vq, .slice (some ⟨gr, 0, none⟩) (n + 1) c5, .slice (some ⟨gb, 0, none⟩) m c3] := by
  have h1 := hk4.set_ 1 (.slice (some ⟨gr, 0, none⟩) (n + 1) c5)
  simpa using h1
 have hB5 := hB4.other (p := ⟨gd, 1, none⟩) hgbd (.slice (some ⟨gr, 0, none⟩) (n + 1) c5)
 have hR5 := hR4.other (p := ⟨gd, 1, none⟩) hgrd (.slice (some ⟨gr, 0, none⟩) (n + 1) c5)
 have hq5 : OwnL (w4.setCell ⟨gd, 1, none⟩ (.slice (some ⟨gr, 0, none⟩) (n + 1) c5)) base 81 vq lq := hq4.keep fun j hj => Below.heap_setCell _ _ _ _ (HNV.out _ _ HD.out.q j hj).1
 have hF5 : Fr (DS gd vq vr vb) w (w4.setCell ⟨gd, 1, none⟩ (.slice (some ⟨gr, 0, none⟩) (n + 1) c5)) :=
  Fr.setCell (HF3.out.trans hF4 (fun x _ e => .inr (.inr (.inl e)))) (fun _ => .inl rfl) _ _
 have hgr : gr < w.heap.size → vr.ownBlock = some gr := by
  intro hlt
  rcases hor4 with h | h
  · exact h
  · omega
 have hd1' : w4.cell? ⟨gd, 1, none⟩ = some (.slice Ar nr cr) := by
  have := hk4.cell 1
  rw [HVR.out] at this
  simpa using this
 have hfd1 := hk4.frozen 1
 have hd0 : w4.cell? ⟨gd, 0, none⟩ = some (.slice Aq nq cq) := by
  have := hk4.cell 0
  rw [HVQ.out] at this
  simpa using this
 have HGR := Lib.hid hgr
 have HK5 := Lib.hid hk5
 have HB5 := Lib.hid hB5
 have HR5 := Lib.hid hR5
 have HQ5 := Lib.hid hq5
 have HF5 := Lib.hid hF5
 have HR4L := Lib.hid hR4l
 have HN4 := Lib.hid hN4
 clear hk4 hk5 hB4 hB5 hR5 hR4 hq4 hq5 hF5 hF4 hor4 hgr hR4l hN4 HK3 HB3 HQ3 HR3 HF3 hd1 hd2 hfd2 hgbr
 go_wp2_with fail
 have hob : OwnL (w4.setCell ⟨gd, 1, none⟩ (.slice (some ⟨gr, 0, none⟩) (n + 1) c5)) base 81 (.slice Aq nq cq) lq := by
  have := HQ5.out
  rwa [HVQ.out] at this
 have hsz := sized_own base (n - m + 1) _ lq (w4.setCell ⟨gd, 1, none⟩ (.slice (some ⟨gr, 0, none⟩) (n + 1) c5)) hob (Nat.le_trans hbase HF5.out.size) (by omega) (by omega)
 rw [show (((n - m + 1 : Nat)) : Int) = (n : Int) - (m : Int) + 1 from by omega] at hsz
 refine hsz.mono ?_
 clear hsz hob
 rintro e w6 ⟨gq, c7, O, rfl, hO6, hO6l, hnc7, hc79, hB6, hbg7, hor6⟩
 rw [← HVQ.out] at hor6
 generalize w4.setCell ⟨gd, 1, none⟩ (.slice (some ⟨gr, 0, none⟩) (n + 1) c5) = w5 at HK5 HB5 HR5 HQ5 HF5 hB6 hor6
 have hw5 := HF5.out.size
 have hgq : gq < w.heap.size → vq.ownBlock = some gq := by
  intro hlt
  rcases hor6 with ⟨h, _⟩ | ⟨h, _⟩
  · exact h
  · omega
 have hk6 := HK5.out.below hB6 HK5.out.lt
 have hB6' := HB5.out.below hB6 HB5.out.lt
 have hR6 := HR5.out.below hB6 HR5.out.lt
 have hgqd : gq ≠ gd := by
  rintro rfl
  have h1 := hO6.bk
  unfold Bk at h1 hk6
  rw [h1] at hk6
  injection hk6 with hk6
  injection hk6 with _ e
  exact absurd e (by decide)
 have hgqr : gq ≠ gr := by
  rintro rfl
  rcases hor6 with ⟨h, _⟩ | ⟨h, _⟩
  · exact HD.out.qr gq h (HGR.out (HNV.out _ _ HD.out.q gq h).2)
  · have := HR5.out.lt; omega
 have hgqb : gq ≠ gb := by
  rintro rfl
  rcases hor6 with ⟨h, _⟩ | ⟨h, _⟩
  · exact HD.out.qb gq h (HGB.out (HNV.out _ _ HD.out.q gq h).2)
  · have := HB5.out.lt; omega
 have hk7 : Bk (w6.setCell ⟨gd, 0, none⟩ (.slice (some ⟨gq, 0, none⟩) (n - m + 1) c7)) gd 125 #[.slice (some ⟨gq, 0, none⟩) (n - m + 1) c7, .slice (some ⟨gr, 0, none⟩) (n + 1) c5, .slice (some ⟨gb, 0, none⟩) m c3] := by
  have h1 := hk6.set_ 0 (.slice (some ⟨gq, 0, none⟩) (n - m + 1) c7)
  simpa using h1
 have hB7 := hB6'.other (p := ⟨gd, 0, none⟩) hgbd (.slice (some ⟨gq, 0, none⟩) (n - m + 1) c7)
 have hR7 := hR6.other (p := ⟨gd, 0, none⟩) hgrd (.slice (some ⟨gq, 0, none⟩) (n - m + 1) c7)
 have hO7 := hO6.other (p := ⟨gd, 0, none⟩) hgqd (.slice (some ⟨gq, 0, none⟩) (n - m + 1) c7)
 have hF7 : Fr (DS gd vq vr vb) w (w6.setCell ⟨gd, 0, none⟩ (.slice (some ⟨gq, 0, none⟩) (n - m + 1) c7)) :=
  Fr.setCell (HF5.out.trans (Fr.of_below (S := fun _ => False) hB6) (fun _ _ h => h.elim)) (fun _ => .inl rfl) _ _
 have hd0' : w6.cell? ⟨gd, 0, none⟩ = some (.slice Aq nq cq) := by
  have := hk6.cell 0
  rw [HVQ.out] at this
  simpa using this
 have hfd0 := hk6.frozen 0
 have HGQ := Lib.hid hgq
 have HK7 := Lib.hid hk7
 have HB7 := Lib.hid hB7
 have HR7 := Lib.hid hR7
 have HO7 := Lib.hid hO7
 have HF7 := Lib.hid hF7
 have HO6L := Lib.hid hO6l
 clear hk6 hk7 hB6' hB7 hR6 hR7 hO6 hO7 hF7 hB6 hor6 hgq HK5 HB5 HR5 HQ5 HF5 hd0 hd1' hfd1 hO6l
 go_wp2_with fail
 generalize w6.setCell ⟨gd, 0, none⟩ (.slice (some ⟨gq, 0, none⟩) (n - m + 1) c7) = w7 at HK7 HB7 HR7 HO7 HF7
 clear hd0' hfd0
 have hab := ha.bd
 have hbb := hb.bd
 have hVl : (shlL s 0 b).length = m := by rw [shlL_length, HBL.out]
 have hVv : val (shlL s 0 b) = val b * 2 ^ s := shl_exact hs (k := m - 1) HT.out (by rw [HBL.out]; omega) hts
 have hXl : (shlL s 0 (a ++ [0])).length = n + 1 := by rw [shlL_length, List.length_append, HAL.out]; rfl
 have hXv : val (shlL s 0 (a ++ [0])) = val a * 2 ^ s := by
  have h1 := shl_exact hs (X := a ++ [0]) (k := n) (t := 0) (by rw [List.getElem?_append_right (by rw [HAL.out]; exact Nat.le_refl _), HAL.out, Nat.sub_self]; rfl) (by rw [List.length_append, HAL.out]; rfl) (by omega)
  rw [h1, val_append]
  simp [val]
 have hinit := long_init (s := s) hab HAL.out nb HBL.out (by omega) hmn hXl hXv
 have hVb : Bd (shlL s 0 b) := shlL_bd hs b 0 hbb (by omega)
 have hVtop : 0 < (shlL s 0 b).getD (m - 1) 0 := by
  obtain ⟨y, hy⟩ : ∃ y, b[m - 2]? = some y := ⟨b[m - 2]'(by rw [HBL.out]; omega), List.getElem?_eq_getElem (by rw [HBL.out]; omega)⟩
  have hT := HT.out
  rw [show m - 1 = m - 2 + 1 from by omega] at hT ⊢
  rw [List.getD_eq_getElem?_getD, shlL_get s b 0 (m - 2) t y hT hy]
  show 0 < t * 2 ^ s % 4294967296 + y / 2 ^ (32 - s)
  rw [Nat.mod_eq_of_lt hts]
  exact Nat.add_pos_left (Nat.mul_pos htp (Nat.two_pow_pos s)) _
 have hVW := val_lt hVb
 rw [hVl] at hVW
 rw [← hVv] at hinit
 generalize shlL s 0 b = V at HB7 hVl hVv hVtop hVW hinit
 generalize shlL s 0 (a ++ [0]) = X at HR7 hXl hXv hinit
 have HVL := Lib.hid hVl
 have HVV := Lib.hid hVv
 have HXL := Lib.hid hXl
 have HXV := Lib.hid hXv
 have HINIT := Lib.hid hinit
 have HVTOP := Lib.hid hVtop
 have HVW := Lib.hid hVW
 have HMN := Lib.hid hmn
 clear hVl hVv hXl hXv hinit hVtop hVW hVb hab hbb
 go_loopw [7] (fun iv wr => ∃ (i : Int) (R Q : List Nat), -1 ≤ i ∧ i ≤ (n : Int) - (m : Int) ∧ iv = .int .i64 i ∧ Buf wr gr 81 (R ++ T5) ∧ Hid (R.length = n + 1) ∧ Buf wr gq 81 (O.take (i + 1).toNat ++ Q ++ O.drop (n - m + 1)) ∧
  Hid (Q.length = n - m + 1 - (i + 1).toNat) ∧ Hid (val a * 2 ^ s = val R + W (i + 1).toNat * (val Q * val V)) ∧ Hid (val (R.drop (i + 1).toNat) < val V) ∧ Fr (fun k => k = gr ∨ k = gq) w7 wr ∧ Hid (wr.heap.size = w7.heap.size))
  (fun iv _ => (intOf iv + 1).toNat)
 case atStart =>
  refine ⟨(n : Int) - (m : Int), X, [], by omega, by omega, rfl, HR7.out, HXL.out, ?_, ?_, ?_, ?_, Fr.refl _ _, rfl⟩
  · rw [show ((n : Int) - (m : Int) + 1).toNat = n - m + 1 from by omega, List.append_nil, List.take_append_drop]; exact HO7.out
  · show 0 = n - m + 1 - _; omega
  · show _ = val X + _
    rw [HXV.out]; simp [val]
  · show val (X.drop _) < val V
    rw [show ((n : Int) - (m : Int) + 1).toNat = n - m + 1 from by omega]; exact HINIT.out
 case round =>
  obtain ⟨i, R, Q, hi1, hi2, rfl, hRb, hRl, hQb, hQl, hval, hlt, hfr, hws⟩ := hrel
  have hkd : Bk wr gd 125 #[.slice (some ⟨gq, 0, none⟩) (n - m + 1) c7, .slice (some ⟨gr, 0, none⟩) (n + 1) c5, .slice (some ⟨gb, 0, none⟩) m c3] :=
   (hfr.block gd HK7.out.lt (fun h => h.elim (fun e => hgrd e.symm) (fun e => hgqd e.symm))).trans HK7.out
  have hbb : Buf wr gb 81 (V ++ T3) := ⟨(hfr.block gb HB7.out.lt (fun h => h.elim (fun e => hgrb e.symm) (fun e => hgqb e.symm))).trans HB7.out.bk, HB7.out.bd⟩
  have e0 : wr.cell? ⟨gd, 0, none⟩ = some (.slice (some ⟨gq, 0, none⟩) (n - m + 1) c7) := by simpa using hkd.cell 0
  have e1 : wr.cell? ⟨gd, 1, none⟩ = some (.slice (some ⟨gr, 0, none⟩) (n + 1) c5) := by simpa using hkd.cell 1
  have e2 : wr.cell? ⟨gd, 2, none⟩ = some (.slice (some ⟨gb, 0, none⟩) m c3) := by simpa using hkd.cell 2
  rcases Int.lt_or_le i 0 with hneg | hpos
  · obtain rfl : i = -1 := by omega
    have ez : ((-1 : Int) + 1).toNat = 0 := rfl
    rw [ez] at hQb hQl hval hlt
    rw [List.take_zero, List.nil_append] at hQb
    rw [W_zero, Nat.one_mul] at hval
    rw [List.drop_zero] at hlt
    have hQl2 : Hid (Q.length = n - m + 1) := hQl.out
    have hfrw : Fr (DS gd vq vr vb) w wr :=
     HF7.out.trans hfr (fun x hx h => h.elim (fun e => .inr (.inr (.inl (e ▸ HGR.out (e ▸ hx))))) (fun e => .inr (.inl (e ▸ HGQ.out (e ▸ hx)))))
    have hlq : Lim wr wr.heap.size (some ⟨gq, 0, none⟩) (n - m + 1) c7 Q := by
     have := hQb.lim (B := wr.heap.size) (n := n - m + 1) (c := c7) hQb.lt hnc7 hc79 (by rw [List.length_append, hQl2.out]; omega)
     rwa [List.take_left' hQl2.out] at this
    have hf0 := hkd.frozen 0
    have hf1 := hkd.frozen 1
    have HLQ := Lib.hid hlq
    have HKD := Lib.hid hkd
    have HFRW := Lib.hid hfrw
    have hO6l := HO6L.out
    have hR4l := HR4L.out
    have hB2l := HB2L.out
    rw [List.length_append, HN4.out] at hR4l
    have HR4L' := Lib.hid hR4l
    have HB2L' := Lib.hid hB2l
    have HO6L' := Lib.hid hO6l
    clear hQl hlq hkd hfrw hO6l hR4l hB2l ez
    go_wp2_with fail
    refine (trim_any _ _ _ _ _ _ HLQ.out).mono ?_
    rintro e w' ⟨rfl, m1, rfl, hm1', hv1, hn1⟩
    have hx1k : Bk (wr.setCell ⟨gd, 0, none⟩ (.slice (some ⟨gq, 0, none⟩) m1 c7)) gd 125 #[.slice (some ⟨gq, 0, none⟩) m1 c7, .slice (some ⟨gr, 0, none⟩) (n + 1) c5, .slice (some ⟨gb, 0, none⟩) m c3] := by
     have h1 := HKD.out.set_ 0 (.slice (some ⟨gq, 0, none⟩) m1 c7)
     simpa using h1
    have hx1q := hQb.other (p := ⟨gd, 0, none⟩) hgqd (.slice (some ⟨gq, 0, none⟩) m1 c7)
    have hx1r := hRb.other (p := ⟨gd, 0, none⟩) hgrd (.slice (some ⟨gq, 0, none⟩) m1 c7)
    have hx1b := hbb.other (p := ⟨gd, 0, none⟩) hgbd (.slice (some ⟨gq, 0, none⟩) m1 c7)
    have hx1f : Fr (DS gd vq vr vb) w (wr.setCell ⟨gd, 0, none⟩ (.slice (some ⟨gq, 0, none⟩) m1 c7)) := HFRW.out.setCell (fun _ => .inl rfl) _ _
    have hsb := shiftBack_any gr (n + 1) c5 s R T5 (wr.setCell ⟨gd, 0, none⟩ (.slice (some ⟨gq, 0, none⟩) m1 c7)) hx1r hRl.out (by omega) (by have := HR4L'.out; omega) (by omega) hs
    have HSB := Lib.hid hsb
    have HX1K := Lib.hid hx1k
    have HX1Q := Lib.hid hx1q
    have HX1B := Lib.hid hx1b
    have HX1F := Lib.hid hx1f
    clear hsb hx1k hx1q hx1r hx1b hx1f
    go_wp2_with fail
    refine HSB.out.mono ?_
    rintro e x2 ⟨rfl, hx2r, hon2⟩
    have hx2k := hon2.bk HX1K.out (Ne.symm hgrd)
    have hx2q := hon2.buf HX1Q.out hgqr
    have hx2b := hon2.buf HX1B.out (Ne.symm hgrb)
    have hx2f : Fr (DS gd vq vr vb) w x2 := HX1F.out.only hon2 (fun h => .inr (.inr (.inl (HGR.out h))))
    have hy1 : x2.cell? ⟨gd, 1, none⟩ = some (.slice (some ⟨gr, 0, none⟩) (n + 1) c5) := by simpa using hx2k.cell 1
    have hyf := hx2k.frozen 1
    have hsl : (shrL s R).length = n + 1 := by rw [shrL_length]; exact hRl.out
    have hlr : Lim x2 x2.heap.size (some ⟨gr, 0, none⟩) (n + 1) c5 (shrL s R) := by
     have := hx2r.lim (B := x2.heap.size) (n := n + 1) (c := c5) hx2r.lt (by have := HR4L'.out; omega) hc59 (by rw [List.length_append, hsl]; omega)
     rwa [List.take_left' hsl] at this
    have HLR := Lib.hid hlr
    have HX2K := Lib.hid hx2k
    have HX2Q := Lib.hid hx2q
    have HX2R := Lib.hid hx2r
    have HX2B := Lib.hid hx2b
    have HX2F := Lib.hid hx2f
    have HSL := Lib.hid hsl
    clear hx2k hx2q hx2b hx2f hx2r hlr hsl e0 e1 e2
    go_wp2_with fail
    refine (trim_any _ _ _ _ _ _ HLR.out).mono ?_
    rintro e w' ⟨rfl, m2, rfl, hm2', hv2, hn2⟩
    go_wp2
    go_end0
    obtain ⟨r0, Rr, hRe⟩ : ∃ r0 Rr, R = r0 :: Rr := by
     cases R with
     | nil => have := hRl.out; simp at this
     | cons x r => exact ⟨x, r, rfl⟩
    have hshr := val_shrL (s := s) (by omega) Rr r0
    rw [← hRe] at hshr
    have hval' := hval.out
    rw [HVV.out] at hval'
    have hlt' := hlt.out
    rw [HVV.out] at hlt'
    obtain ⟨q1, q2⟩ := long_end hval' hlt' hshr (Nat.mod_lt _ (Nat.two_pow_pos s))
    refine ⟨rfl, .slice (some ⟨gq, 0, none⟩) m1 c7, .slice (some ⟨gr, 0, none⟩) m2 c5, .slice (some ⟨gb, 0, none⟩) m c3, Q.take m1, (shrL s R).take m2, V, ⟨?_, ?_, ?_, ?_, ?_, ?_, ?_⟩, hn1, ?_, hn2, ?_, ?_, ?_⟩
    · have h1 := HX2K.out.set_ 1 (.slice (some ⟨gr, 0, none⟩) m2 c5)
      simpa using h1
    · refine .inr ⟨gq, m1, c7, Q ++ O.drop (n - m + 1), rfl, hbg7, HX2Q.out.other hgqd _, ?_, by omega, hc79, ?_⟩
      · rw [List.length_append, hQl2.out, List.length_drop, HO6L'.out]; omega
      · rw [List.take_append_of_le_length (by rw [hQl2.out]; exact hm1')]
    · refine .inr ⟨gr, m2, c5, shrL s R ++ T5, rfl, hbg5, HX2R.out.other hgrd _, ?_, ?_, hc59, ?_⟩
      · rw [List.length_append, HSL.out]; exact HR4L'.out
      · have := HR4L'.out; omega
      · rw [List.take_append_of_le_length (by rw [HSL.out]; exact hm2')]
    · refine .inr ⟨gb, m, c3, V ++ T3, rfl, hbg3, HX2B.out.other hgbd _, ?_, ?_, hc39, ?_⟩
      · have h1 := HB2L'.out
        rw [List.length_append, HN2.out] at h1
        rw [List.length_append, HVL.out]; exact h1
      · have h1 := HB2L'.out
        rw [List.length_append, HN2.out] at h1
        omega
      · rw [List.take_left' HVL.out]
    · intro k1 h1 h2
      have e1 : gq = k1 := by simpa [Value.ownBlock] using h1
      have e2 : gr = k1 := by simpa [Value.ownBlock] using h2
      exact hgqr (e1.trans e2.symm)
    · intro k1 h1 h2
      have e1 : gq = k1 := by simpa [Value.ownBlock] using h1
      have e2 : gb = k1 := by simpa [Value.ownBlock] using h2
      exact hgqb (e1.trans e2.symm)
    · intro k1 h1 h2
      have e1 : gr = k1 := by simpa [Value.ownBlock] using h1
      have e2 : gb = k1 := by simpa [Value.ownBlock] using h2
      exact hgrb (e1.trans e2.symm)
    · rw [hv1, q1]
    · rw [hv2, q2]
    · exact HX2F.out.setCell (fun _ => .inl rfl) _ _
    · intro k1 hk
      rcases hk with h | h | h | h
      · exact .inl (.inl h)
      · have e1 : gq = k1 := by simpa [Value.ownBlock] using h
        rcases Nat.lt_or_ge k1 w.heap.size with h2 | h2
        · exact .inl (.inr (.inl (e1 ▸ HGQ.out (e1.symm ▸ h2))))
        · exact .inr h2
      · have e1 : gr = k1 := by simpa [Value.ownBlock] using h
        rcases Nat.lt_or_ge k1 w.heap.size with h2 | h2
        · exact .inl (.inr (.inr (.inl (e1 ▸ HGR.out (e1.symm ▸ h2)))))
        · exact .inr h2
      · have e1 : gb = k1 := by simpa [Value.ownBlock] using h
        rcases Nat.lt_or_ge k1 w.heap.size with h2 | h2
        · exact .inl (.inr (.inr (.inr (e1 ▸ HGB.out (e1.symm ▸ h2)))))
        · exact .inr h2
  · obtain ⟨q, rfl⟩ : ∃ q : Nat, i = (q : Int) := ⟨i.toNat, by omega⟩
    rw [show ((q : Int) + 1).toNat = q + 1 from by omega] at hQb hQl hval hlt
    have hqn : q + m ≤ n := by omega
    have hRbd : Bd R := fun x hx => hRb.bd x (by simp [hx])
    obtain ⟨p1, p2⟩ := long_pre hRbd (i := q) (m := m) (V := val V) (by rw [hRl.out]; omega) hlt.out HVW.out
    have htk := takeOff_m gr q (c5 - q) m c3 gb (R ++ T5) (V ++ T3) wr.drew hRb.drew (by rw [List.length_append, hRl.out]; omega) hbb.drew (Ne.symm hgrb) hm2 (by rw [List.length_append, HVL.out]; omega) (by have := HR4L.out; rw [List.length_append] at this; have := HN4.out; omega) (by have := HB2L.out; rw [List.length_append] at this; have := HN2.out; omega) (by omega)
     (by rw [List.getD_eq_getElem?_getD, List.getElem?_append_left (by rw [HVL.out]; omega), ← List.getD_eq_getElem?_getD]; exact HVTOP.out)
     (by rw [sl_drop_take (by rw [hRl.out]; omega), List.take_left' HVL.out]; exact p1)
    rw [List.take_left' HVL.out] at htk
    have HTK := Lib.hid htk
    have HP2 := Lib.hid p2
    have hqO : q < O.length := by rw [HO6L.out]; omega
    have hg1 := limb_get (Q := Q) (T := O.drop (n - m + 1)) hqO (List.getElem?_eq_getElem hqO)
    obtain ⟨z, hz, hcz⟩ := hQb.cell (k := q) (List.getElem?_eq_some_iff.1 hg1).1
    have hfz := hQb.frozen q
    have hs1 : ∀ (W : World) (o j : Nat) (u : Value), (W.setCell ⟨gq, o, none⟩ u).cell? ⟨gd, j, none⟩ = W.cell? ⟨gd, j, none⟩ := fun W o j u => World.cell?_setCell_other W _ _ u (fun e => hgqd (congrArg Addr.block e))
    have honk : ∀ (W W' : World) (o : Nat), Only gr W W' → W'.cell? ⟨gq, o, none⟩ = W.cell? ⟨gq, o, none⟩ ∧ W'.frozen? ⟨gq, o, none⟩ = W.frozen? ⟨gq, o, none⟩ ∧ (∀ j, W'.cell? ⟨gd, j, none⟩ = W.cell? ⟨gd, j, none⟩) :=
     fun W W' o h => ⟨World.cell?_of_block (a := ⟨gq, o, none⟩) (h.block gq hgqr), World.frozen?_of_block (a := ⟨gq, o, none⟩) (h.block gq hgqr), fun j => World.cell?_of_block (a := ⟨gd, j, none⟩) (h.block gd (Ne.symm hgrd))⟩
    have HONK := Lib.hid honk
    have hcq : q + m + 1 ≤ c5 := by
     have h1 := HR4L.out
     rw [List.length_append] at h1
     have h2 := HN4.out
     omega
    clear hg1 hz htk p1 p2 honk hkd hbb
    go_wp2_with fail
    have k1 : IntKind.i64.wrap ((q : Int) + (m : Int)) = (q : Int) + (m : Int) := IntWalk.i64_in _ (by omega)
    have k2 : IntKind.i64.wrap ((q : Int) + (m : Int) + 1) = (q : Int) + (m : Int) + 1 := IntWalk.i64_in _ (by omega)
    have k3 : (q : Int) ≤ (q : Int) + (m : Int) + 1 := by omega
    have k4 : (q : Int) + (m : Int) + 1 ≤ (c5 : Int) := by omega
    have k5 : 0 ≤ (q : Int) + (m : Int) + 1 := by omega
    have k6 : ((q : Int) + (m : Int) + 1).toNat = q + m + 1 := by omega
    have k7 : q + m + 1 - q = m + 1 := by omega
    have k8 : ¬ c5 = q := by omega
    have k9 : (q : Int) < ((n - m + 1 : Nat) : Int) := by omega
    have k10 : q < n - m + 1 := by omega
    have k11 : (q : Int) < ((n - m : Nat) : Int) + 1 := by omega
    have k12 : (0 : Int) ≤ (q : Int) := by omega
    go_region_held3 (fun w' => w'.cell? ⟨gd, 0, none⟩ = some (.slice (some ⟨gq, 0, none⟩) (n - m + 1) c7) ∧ w'.cell? ⟨gd, 1, none⟩ = some (.slice (some ⟨gr, 0, none⟩) (n + 1) c5) ∧ w'.cell? ⟨gd, 2, none⟩ = some (.slice (some ⟨gb, 0, none⟩) m c3)) (go_keep)
     (first | (go_at_call 133; refine HTK.out.mono ?_; rintro e w' ⟨qd, P, rfl, hqd, hPl, hRb2, hPv, hPlt, hon⟩; obtain ⟨hc9, hf9, hd9⟩ := HONK.out _ _ q hon; have HPV := Lib.hid hPv; have HPL := Lib.hid hPl; clear hPv hPl))
    clear k1 k2 k3 k4 k5 k6 k7 k8 k9 k10 k11 k12
    go_wp2
    go_roundw
    case rel =>
     have hR2 : Buf w' gr 81 ((R.take q ++ P ++ R.drop (q + m + 1)) ++ T5) := by
      have h1 := hRb2
      rwa [Nat.add_assoc, sl_splice (by rw [hRl.out]; omega), ← Nat.add_assoc] at h1
     have hpv := HPV.out
     rw [sl_drop_take (by rw [hRl.out]; omega)] at hpv
     obtain ⟨r1, r2⟩ := long_round (i := q) (m := m) (by rw [hRl.out]; omega) HPL.out hval.out hpv HP2.out hPlt
     refine ⟨(q : Int) - 1, R.take q ++ P ++ R.drop (q + m + 1), qd :: Q, by omega, by omega, by go_num, hR2.other (p := ⟨gq, q, none⟩) (Ne.symm hgqr) _, ?_, ?_, ?_, ?_, ?_, ?_, ?_⟩
     · show _ = n + 1
       rw [List.length_append, List.length_append, List.length_take, List.length_drop, HPL.out, hRl.out]; omega
     · rw [show ((q : Int) - 1 + 1).toNat = q from by omega, ← limb_set (Q := Q) (T := O.drop (n - m + 1)) hqO]
       exact (hon.buf hQb.drew hgqr).set_ q qd hqd
     · show (qd :: Q).length = _
       rw [List.length_cons, hQl.out]; omega
     · rw [show ((q : Int) - 1 + 1).toNat = q from by omega]; exact r1
     · rw [show ((q : Int) - 1 + 1).toNat = q from by omega]; exact r2
     · exact ((hfr.drew.only hon (fun _ => .inl rfl)).setCell (fun _ => .inr rfl) _ _)
     · show (w'.setCell _ _).heap.size = _
       rw [World.size_setCell, hon.size]; exact hws.out
    case measure => simp [intOf]
end Go.Proofs.YthlfhfkfjefidaaGreat
/- The walks of divide, whatever its numbers are, and of divideLimbs; words of one and two limbs. -/
namespace Go.Proofs.YthlfhfkfjefidaaGreat
open Go.RowKit
theorem divide_any (gd base n c m c2 : Nat) (A A2 : Option Addr) (a b : List Nat) (vq vr vb : Value) (lq lr lb : List Nat) (w : World) (hD : DivS w gd base vq vr vb lq lr lb) (hbase : base ≤ w.heap.size) (hgb : base ≤ gd)
 (ha : Lim w w.heap.size A n c a) (hoff : 0 < n → Off A (DS gd vq vr vb)) (na : Norm a) (hb : Lim w w.heap.size A2 m c2 b) (hoff2 : 0 < m → Off A2 (DS gd vq vr vb)) (nb : Norm b) (hpos : 0 < val b) (hn : n ≤ 536870912) :
 Calls Tryz.prog 106 #[.pointer (some ⟨gd, 0, none⟩), .slice A n c, .slice A2 m c2] w (DivR gd base vq vr vb (val a / val b) (val a % val b) w) := by
 rcases Nat.lt_or_ge (val a) (val b) with h | h
 · exact divide_lt gd base n c m c2 A A2 a b vq vr vb lq lr lb w hD hbase ha hoff na hb nb h (by omega)
 · have hm0 : 0 < m := by
    rcases Nat.eq_zero_or_pos m with h0 | h0
    · have : b = [] := List.eq_nil_of_length_eq_zero (by rw [hb.len, h0])
      rw [this, val_nil] at hpos; omega
    · exact h0
   by_cases hm1 : m = 1
   · exact divide_limb gd base n c m c2 A A2 a b vq vr vb lq lr lb w hD hbase hgb ha hoff na hb nb hm1 h (by omega)
   · exact divide_knuth gd base n c m c2 A A2 a b vq vr vb lq lr lb w hD hbase ha hoff na hb hoff2 nb (by omega) h hn
def NatAt (w : World) (B : Nat) (v : Value) (x : Nat) : Prop := ∃ A n c l, v = .slice A n c ∧ Lim w B A n c l ∧ Norm l ∧ val l = x
theorem OwnL.natAt {w : World} {base : Nat} {t : TypeId} {v : Value} {l : List Nat} (h : OwnL w base t v l) (hn : Norm l) {x : Nat} (hx : val l = x) : NatAt w w.heap.size v x := by
 obtain ⟨A, c, hv, hl⟩ := h.lim (Nat.le_refl _)
 exact ⟨A, l.length, c, l, hv, hl, hn, hx⟩
def DivLR (q r : Nat) (w : World) (e : Ending) (w' : World) : Prop :=
 Below w.heap.size w w' ∧ ∃ vq vr, e = .returned (.tuple #[vq, vr]) ∧ NatAt w' w'.heap.size vq q ∧ NatAt w' w'.heap.size vr r
theorem NatAt.drewN {w : World} {B : Nat} {v : Value} {x : Nat} (h : NatAt w B v x) (k : Nat) : NatAt (w.drewN k) B v x := by
 obtain ⟨A, n, c, l, e, hl, hn, hx⟩ := h
 exact ⟨A, n, c, l, e, hl.drewN k, hn, hx⟩
set_option maxRecDepth 100000 in
set_option maxHeartbeats 1000000 in
theorem divideLimbs_any (n c m c2 : Nat) (A A2 : Option Addr) (a b : List Nat) (w : World) (ha : Lim w w.heap.size A n c a) (na : Norm a) (hb : Lim w w.heap.size A2 m c2 b) (nb : Norm b) (hpos : 0 < val b) (hn : n ≤ 536870912) :
 Calls Tryz.prog 68 #[.slice A n c, .slice A2 m c2] w (DivLR (val a / val b) (val a % val b) w) := by
 have hD : DivS (w.alloc (.cells #[.slice none 0 0, .slice none 0 0, .slice none 0 0] 125)) w.heap.size w.heap.size (.slice none 0 0) (.slice none 0 0) (.slice none 0 0) [] [] [] :=
  ⟨Bk.alloc_ _ _ _, OwnL.nil_ _ _ _, OwnL.nil_ _ _ _, OwnL.nil_ _ _ _, fun k h => by simp [Value.ownBlock] at h, fun k h => by simp [Value.ownBlock] at h, fun k h => by simp [Value.ownBlock] at h⟩
 have off_ : ∀ (A : Option Addr) (n c : Nat) (l : List Nat), 0 < n → Lim w w.heap.size A n c l → Off A (DS w.heap.size (.slice none 0 0) (.slice none 0 0) (.slice none 0 0)) := by
  intro A n c l h0 hl ad hA hS
  obtain ⟨b', o', e, hb', _⟩ := hl.addr h0
  rw [hA] at e
  have e1 : ad = ⟨b', o', none⟩ := Option.some.inj e
  subst e1
  rcases hS with h | h | h | h
  · have h2 : b' = w.heap.size := h
    omega
  · simp [Value.ownBlock] at h
  · simp [Value.ownBlock] at h
  · simp [Value.ownBlock] at h
 have hdiv := divide_any w.heap.size w.heap.size n c m c2 A A2 a b _ _ _ [] [] [] (w.alloc (.cells #[.slice none 0 0, .slice none 0 0, .slice none 0 0] 125)) hD (by simp) (Nat.le_refl _)
  (ha.alloc _ (Nat.le_refl _) (by simp)) (fun h0 => off_ A n c a h0 ha) na (hb.alloc _ (Nat.le_refl _) (by simp)) (fun h0 => off_ A2 m c2 b h0 hb) nb hpos hn
 have HDIV := Lib.hid hdiv
 clear hdiv hD off_ ha hb
 go_enter Tryz.func68, Tryz.ntmps68
 go_wp2_with fail
 refine HDIV.out.mono ?_
 rintro e w2 ⟨rfl, vq, vr, vb, lq, lr, lb, hD2, n1, v1, n2, v2, hF, hS⟩
 obtain ⟨Aq, cq, hvq⟩ := hD2.q.form
 obtain ⟨Ar, cr, hvr⟩ := hD2.r.form
 have e0 : w2.cell? ⟨w.heap.size, 0, none⟩ = some (.slice Aq lq.length cq) := by
  have := hD2.bk.cell 0
  rw [hvq] at this
  simpa using this
 have e1 : w2.cell? ⟨w.heap.size, 1, none⟩ = some (.slice Ar lr.length cr) := by
  have := hD2.bk.cell 1
  rw [hvr] at this
  simpa using this
 have HQ := Lib.hid (hD2.q.natAt n1 v1)
 have HR := Lib.hid (hD2.r.natAt n2 v2)
 rw [hvq] at HQ
 rw [hvr] at HR
 have hB : Below w.heap.size w w2 := ((Below.refl _ _).alloc (Nat.le_refl _) _).trans (hF.below (by simp) (fun k hk h => by
  rcases h with h | h | h | h
  · omega
  · simp [Value.ownBlock] at h
  · simp [Value.ownBlock] at h
  · simp [Value.ownBlock] at h))
 have HB := Lib.hid hB
 clear hD2 n1 v1 n2 v2 hF hS hvq hvr hB
 go_wp2
 go_quiet (fail)
 go_wp2
 go_ret2
 exact ⟨Below.drewN HB.out _, _, _, rfl, HQ.out.drewN _, HR.out.drewN _⟩
end Go.Proofs.YthlfhfkfjefidaaGreat
/- The walks of word and commonWord, and of Clone for limbs. -/
namespace Go.Proofs.YthlfhfkfjefidaaGreat
open Go.RowKit
set_option maxRecDepth 100000 in
set_option maxHeartbeats 1000000 in
theorem word_any (A : Option Addr) (n c : Nat) (l : List Nat) (B : Nat) (w : World) (h : Lim w B A n c l) (hn : n ≤ 2) :
 Calls Tryz.prog 54 #[.slice A n c] w fun e w' => w = w' ∧ e = .returned (.int .u64 (val l : Int)) := by
 have hlen := Lib.hid h.len
 go_enter Tryz.func54, Tryz.ntmps54
 go_wp2
 go_loop [3, 8] (fun v i => ∃ k : Nat, k ≤ n ∧ i = .int .i64 (k : Int) ∧ v = .int .u64 (val (l.take k) : Int)) (fun _ i => n - (intOf i).toNat)
 case atStart => exact ⟨0, Nat.zero_le _, rfl, rfl⟩
 case round =>
  obtain ⟨k, hk, rfl, rfl⟩ := hrel
  by_cases hlt : k < n
  · obtain ⟨b, o, x, rfl, hb, hx, hxb, hc⟩ := h.at_ (k := k) hlt
    have hv := val_take_get l hx
    have hp := val_lt (h.bd.take k)
    have hpl : (l.take k).length = k := by rw [List.length_take, hlen.out]; omega
    rw [hpl] at hp
    generalize val (l.take k) = p at hv hp
    have hk2 : k = 0 ∨ k = 1 := by omega
    rcases hk2 with rfl | rfl
    · rw [Nat.add_zero] at hc
      obtain rfl : p = 0 := by simp [W_zero] at hp; exact hp
      have h1 : bits .or .u64 0 (x : Int) = (x : Int) := by
       have := u64_or_nat 0 x (by omega) (by omega)
       rw [Nat.zero_or] at this
       exact this
      have HV : Hid (val (l.take 1) = x) := by show _ = _; rw [hv, W_zero]; omega
      clear hx hv
      go_wp2
      go_round
      case rel => exact ⟨1, hlt, rfl, by rw [HV.out]⟩
      case measure => simp [intOf]; omega
    · have hp2 : p < 4294967296 := hp
      have h1 : bits .or .u64 (p : Int) ((x : Int) * 4294967296) = ((p + 4294967296 * x : Nat) : Int) := by
       have e : (x : Int) * 4294967296 = ((x * 4294967296 : Nat) : Int) := by simp
       rw [e, u64_or_nat _ _ (by omega) (by omega), Nat.or_comm, nat_join 32 _ _ (by omega) hp2]
       congr 1; omega
      have HV : Hid (val (l.take 2) = p + 4294967296 * x) := by show _ = _; rw [hv]; rfl
      clear hx hv
      generalize p + 4294967296 * x = z at h1 HV
      go_wp2
      go_round
      case rel => exact ⟨2, hlt, rfl, by rw [HV.out]⟩
      case measure => simp [intOf]; omega
  · obtain rfl : k = n := by omega
    have hv : Hid (val (l.take k) = val l) := val_take_all hlen.out
    go_wp2
    go_ret
    exact ⟨rfl, by rw [hv.out]; rfl⟩
set_option maxRecDepth 100000 in
set_option maxHeartbeats 1000000 in
theorem commonWord_any (x y : Nat) (w : World) (hx : x < 18446744073709551616) (hy : y < 18446744073709551616) :
 Calls Tryz.prog 135 #[.int .u64 (x : Int), .int .u64 (y : Int)] w fun e w' => e = .returned (.int .u64 (Nat.gcd x y : Int)) ∧ ∃ k, w' = w.drewN k := by
 go_enter Tryz.func135, Tryz.ntmps135
 go_wp2
 go_loopw [0, 1] (fun a b wr => ∃ p q : Nat, a = .int .u64 (p : Int) ∧ b = .int .u64 (q : Int) ∧ p < 18446744073709551616 ∧ q < 18446744073709551616 ∧ Hid (Nat.gcd x y = Nat.gcd p q) ∧ ∃ k, wr = w.drewN k) (fun _ b _ => (intOf b).toNat)
 case atStart => exact ⟨x, y, rfl, rfl, hx, hy, rfl, 0, rfl⟩
 case round =>
  obtain ⟨p, q, rfl, rfl, hp, hq, hg, k, rfl⟩ := hrel
  rcases Nat.eq_zero_or_pos q with h0 | h0
  · subst h0
    have hg2 : Hid (Nat.gcd x y = p) := by show _ = _; rw [hg.out, Nat.gcd_zero_right]
    go_wp2
    go_ret
    exact ⟨by rw [hg2.out]; rfl, k, rfl⟩
  · have h1 : ((q : Int) == 0) = false := by simp; omega
    have h2 : 0 < (q : Int) := by omega
    have e1 : (p : Int) % (q : Int) = ((p % q : Nat) : Int) := (Int.natCast_emod _ _).symm
    have hlt := Nat.mod_lt p h0
    have hg2 : Hid (Nat.gcd x y = Nat.gcd q (p % q)) := by
     show _ = _
     rw [hg.out, Nat.gcd_comm q, ← Nat.gcd_rec, Nat.gcd_comm]
    generalize p % q = r at e1 hlt hg2
    go_wp2
    go_quiet (fail)
    go_wp2
    go_roundw
    case rel => exact ⟨q, r, rfl, congrArg (Value.int IntKind.u64) e1, hq, by omega, hg2, _, World.drewN_drewN _ _ _⟩
    case measure => rw [e1]; simp [intOf]; omega
set_option maxRecDepth 100000 in
set_option maxHeartbeats 1000000 in
theorem clone_any (A : Option Addr) (n c : Nat) (l : List Nat) (B : Nat) (w : World) (h : Lim w B A n c l) (hB : B ≤ w.heap.size) (hn : n ≤ 1073741824) :
 Calls Tryz.prog 126 #[.slice A n c] w fun e w' => Below w.heap.size w w' ∧ ∃ v, e = .returned v ∧ OwnL w' w.heap.size 81 v l := by
 obtain ⟨i0, hi0, hz0, hz1, hz2⟩ := info_parts info_u32
 have hlen := h.len
 cases A with
 | none =>
   have hn0 : n = 0 := by
    rcases Nat.eq_zero_or_pos n with h0 | h0
    · exact h0
    · obtain ⟨b, o, e, _⟩ := h.addr h0; cases e
   have hl : l = [] := List.eq_nil_of_length_eq_zero (by omega)
   have heq := fun W => run_eql_slice_nil (P := Tryz.prog) W 22 81 none n c Tryz.underlying22
   have HLE := Lib.hid hl
   clear hl hn0 hlen h
   go_enter Tryz.func126, Tryz.ntmps126
   go_wp2
   go_ret
   exact ⟨Below.refl _ _, _, rfl, by rw [HLE.out]; exact OwnL.nil_ _ _ _⟩
 | some ad =>
   have heq := fun W => run_eql_slice_nil (P := Tryz.prog) W 22 81 (some ad) n c Tryz.underlying22
   have hown : OwnL (w.alloc (.cells #[] 81)) w.heap.size 81 (.slice (some ⟨w.heap.size, 0, none⟩) 0 0) [] :=
    .inr ⟨w.heap.size, 0, 0, [], rfl, Nat.le_refl _, ⟨by have := Bk.alloc_ w 81 #[]; simpa [u32s] using this, Bd.nil⟩, rfl, Nat.le_refl _, by omega, rfl⟩
   have HL := Lib.hid (h.alloc (.cells #[] 81) (B' := B))
   have HO := Lib.hid hown
   clear h hown hlen
   go_enter Tryz.func126, Tryz.ntmps126
   go_wp2_with (at_builtin; refine wpList_append_u32 _ rfl (.tmp 5) (.tmp 6) _ rfl w.heap.size 81 i0 Tryz.underlying22 hi0 hz0 hz1 hz2 (.slice (some ⟨w.heap.size, 0, none⟩) 0 0) [] rfl HO.out B (some ad) n c l rfl (HL.out hB (Nat.le_refl _)) (by simp; omega) (by simp) ?_; intro v5 w5 hown5 hgrow5 hat5; have HOWN5 := Lib.hid hown5; have HGROW5 := Lib.hid hgrow5; clear hown5 hgrow5 hat5)
   go_ret
   refine ⟨?_, _, rfl, HOWN5.out⟩
   refine ((Below.refl _ _).alloc (Nat.le_refl _) _).grown HGROW5.out (by simp) (fun k e => ?_)
   have e1 : w.heap.size = k := by simpa [Value.ownBlock] using e
   omega
end Go.Proofs.YthlfhfkfjefidaaGreat
/- The walk of commonLimbs: the greatest common divisor of two numbers, in new memory. -/
namespace Go.Proofs.YthlfhfkfjefidaaGreat
open Go.RowKit
theorem step_append_u32 {P : Program} (w : World) {ops : Array Oper} {o : Oper} {a : Act} {K : Act → World → Prop} {Q : Exit → Act → World → Prop} {E : Prop} (hgd : o.guard = none) (s x : Operand) (t : TypeId)
 (ho : o.op = .call { callee := .builtin .append, args := #[s, x], argTypes := #[t, t] })
 (base : Nat) (e : TypeId) (i : TypeInfo) (ht : P.underlying t = some (.slice e)) (hi : P.info? e = some i) (hz : i.zero = some (.int .u32 0)) (hsize : i.size = 1) (hby : i.bytes = 4)
 (v : Value) (l : List Nat) (hs : a.eval s = v) (hown : OwnL w base e v l) (B : Nat) (A : Option Addr) (m c : Nat) (news : List Nat) (hx : a.eval x = .slice A m c) (hl : Lim w B A m c news) (hlen : l.length + m ≤ 1099511627776) (hbase : base ≤ w.heap.size)
 (h : ∀ v' w', OwnL w' base e v' (l ++ news) → w.grownBy w' v.ownBlock → (v'.ownBlock = v.ownBlock ∨ v'.ownBlock = some w.heap.size) → K (a.put o.dst v') w') :
 if Region.wanted o (yielded ops a.tmps) = true then Oper.wp P o a w K Q else E := by
 have hw : Region.wanted o (yielded ops a.tmps) = true := by simp [Region.wanted, hgd]
 rw [if_pos hw]
 exact wp_append_u32 w s x t ho base e i ht hi hz hsize hby v l hs hown B A m c news hx hl hlen hbase h
structure GcdS (w0 w : World) (gd : Nat) (va vb vq vr vy : Value) (la lb lq lr ly : List Nat) : Prop where
 d : DivS w gd w0.heap.size vq vr vy lq lr ly
 a : OwnL w w0.heap.size 81 va la
 b : OwnL w w0.heap.size 81 vb lb
 na : Norm la
 nb : Norm lb
 ab : Ap va vb
 aq : Ap va vq
 ar : Ap va vr
 ay : Ap va vy
 bq : Ap vb vq
 br : Ap vb vr
 by_ : Ap vb vy
 gd : w0.heap.size ≤ gd
 below : Below w0.heap.size w0 w
theorem own_block_eq {A : Option Addr} {n c n' c' : Nat} : (Value.slice A n c).ownBlock = (Value.slice A n' c').ownBlock := by cases A <;> rfl
theorem own_some {A : Option Addr} {n c : Nat} {ad : Addr} (h : A = some ad) : (Value.slice A n c).ownBlock = some ad.block := by subst h; rfl
theorem OwnL.lim' {w : World} {base : Nat} {t : TypeId} {A : Option Addr} {n c : Nat} {l : List Nat} (h : OwnL w base t (.slice A n c) l) : Lim w w.heap.size A n c l := by
 obtain ⟨A', c', e, hl⟩ := h.lim (Nat.le_refl _)
 injection e with e1 e2 e3
 subst e1; subst e2; subst e3
 exact hl
theorem not_DS {w : World} {base gd : Nat} {v vq vr vy : Value} {l : List Nat} {cs : Array Value} (h : OwnL w base 81 v l) (hk : Bk w gd 125 cs) (h1 : Ap v vq) (h2 : Ap v vr) (h3 : Ap v vy) : ∀ k, v.ownBlock = some k → ¬ DS gd vq vr vy k := by
 intro k hv hS
 rcases hS with rfl | hS | hS | hS
 · exact h.ne_bk hk (by decide) hv
 · exact h1 k hv hS
 · exact h2 k hv hS
 · exact h3 k hv hS
theorem off_own {A : Option Addr} {n c : Nat} {S : Nat → Prop} (h : ∀ k, (Value.slice A n c).ownBlock = some k → ¬ S k) : Off A S := fun _ e => h _ (own_some e)
set_option maxRecDepth 100000 in
set_option maxHeartbeats 4000000 in
theorem commonLimbs_any (n c m c2 : Nat) (A A2 : Option Addr) (a b : List Nat) (w : World) (ha : Lim w w.heap.size A n c a) (na : Norm a) (hb : Lim w w.heap.size A2 m c2 b) (nb : Norm b) (hn : n ≤ 536870912) (hm : m ≤ 536870912) :
 Calls Tryz.prog 107 #[.slice A n c, .slice A2 m c2] w (NatR (Nat.gcd (val a) (val b)) w) := by
 obtain ⟨i0, hi0, hz0, hz1, hz2⟩ := info_parts info_u32
 have HLA := Lib.hid ha.len
 have HLB := Lib.hid hb.len
 have HA := Lib.hid ha
 have HB := Lib.hid hb
 clear ha hb
 go_enter Tryz.func107, Tryz.ntmps107
 go_wp2_with fail
 refine (clone_any A n c a w.heap.size w HA.out (Nat.le_refl _) (by omega)).mono ?_
 rintro e w1 ⟨hB1, va, rfl, ho1⟩
 obtain ⟨Aa, ca, hva⟩ := ho1.form
 rw [hva] at ho1 ⊢
 clear hva
 go_wp2_with fail
 refine (clone_any A2 m c2 b w1.heap.size w1 (HB.out.below hB1 (Nat.le_refl _) hB1.size) (Nat.le_refl _) (by omega)).mono ?_
 rintro e w2 ⟨hB2, vb, rfl, ho2⟩
 obtain ⟨Ab, cb, hvb⟩ := ho2.form
 rw [hvb] at ho2 ⊢
 clear hvb
 have hg0 : GcdS w (w2.alloc (.cells #[.slice none 0 0, .slice none 0 0, .slice none 0 0] 125)) w2.heap.size (.slice Aa a.length ca) (.slice Ab b.length cb) (.slice none 0 0) (.slice none 0 0) (.slice none 0 0) a b [] [] [] := by
  have hap : ∀ v : Value, Ap v (.slice none 0 0) := fun v k _ h => by simp [Value.ownBlock] at h
  have hap2 : ∀ v : Value, Ap (.slice none 0 0) v := fun v k h => by simp [Value.ownBlock] at h
  have hs1 := hB1.size
  have hs2 := hB2.size
  refine ⟨⟨Bk.alloc_ _ _ _, OwnL.nil_ _ _ _, OwnL.nil_ _ _ _, OwnL.nil_ _ _ _, hap _, hap _, hap _⟩, ?_, ?_, na, nb, ?_, hap _, hap _, hap _, hap _, hap _, hap _, by omega, ?_⟩
  · refine ho1.keep fun k hk => ?_
    have := (ho1.block k hk).2
    rw [Below.heap_alloc _ _ _ (by omega)]
    exact hB2.block k this
  · rcases ho2 with ⟨h1, h2⟩ | ⟨g, n', c', O, h1, h2, h3, h4⟩
    · exact .inl ⟨h1, h2⟩
    · exact .inr ⟨g, n', c', O, h1, by omega, h3.alloc _, h4⟩
  · intro k h1 h2
    have := (ho1.block k h1).2
    have := (ho2.block k h2).1
    omega
  · exact (hB1.trans (hB2.mono hB1.size)).alloc (by omega) _
 have HG0 := Lib.hid hg0
 have HB12 := Lib.hid (Nat.le_trans hB1.size hB2.size)
 clear hg0 ho1 ho2 hB1 hB2 na nb
 go_wp2_with fail
 go_loopg [0, 1] (val b) (fun g sa sb wr => ∃ (va vb vq vr vy : Value) (la lb lq lr ly : List Nat), sa = va ∧ sb = vb ∧ Hid (GcdS w wr w2.heap.size va vb vq vr vy la lb lq lr ly) ∧ Hid (Nat.gcd (val a) (val b) = Nat.gcd (val la) (val lb)) ∧ val lb ≤ g ∧ la.length ≤ 536870912 ∧ lb.length ≤ 536870912)
 case atStart => exact ⟨_, _, _, _, _, _, _, _, _, _, rfl, rfl, HG0.out, rfl, Nat.le_refl _, by rw [HLA.out]; exact hn, by rw [HLB.out]; exact hm⟩
 case round =>
  obtain ⟨va, vb, vq, vr, vy, la, lb, lq, lr, ly, rfl, rfl, HG, hgcd, hgk, hla, hlb⟩ := hrel
  obtain ⟨A1, c1, hva⟩ := HG.out.a.form
  obtain ⟨A2', c2', hvb⟩ := HG.out.b.form
  subst hva
  subst hvb
  have hA0 := HG.out.a.lim'
  have hB0 := HG.out.b.lim'
  have hwr := HG.out.below.size
  rcases Nat.eq_zero_or_pos lb.length with h0 | h0
  · have hlb0 : lb = [] := List.eq_nil_of_length_eq_zero h0
    have hg2 : Hid (val la = Nat.gcd (val a) (val b)) := by
     show _ = _
     rw [hgcd.out, hlb0, val_nil, Nat.gcd_zero_right]
    have HA0 := Lib.hid hA0
    have H0 : Hid (lb.length = 0) := h0
    have hd : decide (0 < lb.length) = false := by simp; omega
    rw [H0.out]
    clear hlb0 hA0 hB0 h0
    go_wp2
    go_ret
    exact ⟨HG.out.below, _, _, _, _, rfl, HA0.out, HG.out.na, hg2.out⟩
  · by_cases hsm : la.length ≤ 2 ∧ lb.length ≤ 2
    · obtain ⟨h1, h2⟩ := hsm
      have hva := val_lt hA0.bd
      have hvb := val_lt hB0.bd
      have hw2 : W 2 = 18446744073709551616 := rfl
      have hva2 : val la < 18446744073709551616 := by have := W_mono h1; omega
      have hvb2 : val lb < 18446744073709551616 := by have := W_mono h2; omega
      have hgp : Nat.gcd (val la) (val lb) < 18446744073709551616 := by
       have hbp := norm_val_pos HG.out.nb (by rintro rfl; simp at h0)
       exact Nat.lt_of_le_of_lt (Nat.gcd_le_right _ hbp) hvb2
      have HA0 := Lib.hid hA0
      have HB0 := Lib.hid hB0
      have HV := Lib.hid hva2
      have HW := Lib.hid hvb2
      have HGP := Lib.hid hgp
      clear hA0 hB0 hva hvb hw2 hva2 hvb2 hgp hgk
      go_wp2_with fail
      refine (word_any _ _ _ _ _ _ HA0.out h1).mono ?_
      rintro e w' ⟨rfl, rfl⟩
      go_wp2_with fail
      refine (word_any _ _ _ _ _ _ HB0.out h2).mono ?_
      rintro e w' ⟨rfl, rfl⟩
      go_wp2_with fail
      refine (commonWord_any _ _ _ HV.out HW.out).mono ?_
      rintro e w' ⟨rfl, k9, rfl⟩
      go_wp2_with fail
      refine (limbsOf_any _ _ HGP.out).mono ?_
      rintro e w' ⟨hb9, A9, n9, c9, l9, rfl, hl9, hn9, hv9⟩
      have HL9 := Lib.hid hl9
      have HV9 := Lib.hid hv9
      have HB9 : Below w.heap.size w w' := (Below.drewN HG.out.below k9).trans (hb9.mono hwr)
      have HBX := Lib.hid HB9
      clear hl9 hv9 hb9 HB9
      go_wp2
      go_ret
      exact ⟨HBX.out, _, _, _, _, rfl, HL9.out, hn9, by rw [HV9.out, hgcd.out]⟩
    · have hnd1 := not_DS HG.out.a HG.out.d.bk HG.out.aq HG.out.ar HG.out.ay
      have hnd2 := not_DS HG.out.b HG.out.d.bk HG.out.bq HG.out.br HG.out.by_
      have hbp := norm_val_pos HG.out.nb (by rintro rfl; simp at h0)
      have hdiv := divide_any w2.heap.size w.heap.size _ c1 _ c2' A1 A2' la lb vq vr vy lq lr ly wr HG.out.d hwr HG.out.gd hA0 (fun _ => off_own hnd1) HG.out.na hB0 (fun _ => off_own hnd2) HG.out.nb hbp hla
      have HDIV := Lib.hid hdiv
      have HND1 := Lib.hid hnd1
      have HND2 := Lib.hid hnd2
      have HBP := Lib.hid hbp
      clear hdiv hnd1 hnd2 hA0 hB0 hbp
      rcases Nat.lt_or_ge 2 la.length with h1 | h1
      · have hd1 : decide (la.length ≤ 2) = false := by simp; omega
        go_wp2_with fail
        refine HDIV.out.mono ?_
        rintro e w5 ⟨rfl, vq5, vr5, vy5, lq5, lr5, ly5, hD5, n1, v1, n2, v2, hF5, hS5⟩
        obtain ⟨Ar5, cr5, hvr5⟩ := hD5.r.form
        have ha5 : OwnL w5 w.heap.size 81 (.slice A1 la.length c1) la := HG.out.a.keep fun k hk => hF5.block k (HG.out.a.block k hk).2 (HND1.out k hk)
        have hb5 : OwnL w5 w.heap.size 81 (.slice A2' lb.length c2') lb := HG.out.b.keep fun k hk => hF5.block k (HG.out.b.block k hk).2 (HND2.out k hk)
        have e5 : w5.cell? ⟨w2.heap.size, 1, none⟩ = some (.slice Ar5 lr5.length cr5) := by
         have := hD5.bk.cell 1
         rw [hvr5] at this
         simpa using this
        have hsrc : Lim w5.drew w5.heap.size Ar5 lr5.length cr5 lr5 := by
         have := hD5.r
         rw [hvr5] at this
         exact this.lim'.drew
        have hown := ha5.cut (m := 0) (Nat.zero_le _)
        rw [List.take_zero] at hown
        have hown5 : OwnL w5.drew w.heap.size 81 (.slice A1 0 c1) [] := hown.keep fun _ _ => rfl
        have hl5 : lr5.length ≤ lb.length := by
         rcases Nat.lt_or_ge lb.length lr5.length with h | h
         · exfalso
           have h3 := norm_len_lt HG.out.b.bd n2 h
           have h4 := Nat.mod_lt (val la) HBP.out
           omega
         · exact h
        have hnd5 : ∀ k, (Value.slice A1 0 c1).ownBlock = some k → ¬ DS w2.heap.size vq5 vr5 vy5 k ∧ k < w5.heap.size ∧ k < wr.heap.size := by
         intro k hk
         rw [own_block_eq (n' := la.length) (c' := c1)] at hk
         refine ⟨fun h => ?_, (ha5.block k hk).2, (HG.out.a.block k hk).2⟩
         rcases hS5 k h with h3 | h3
         · exact HND1.out k hk h3
         · have := (HG.out.a.block k hk).2; omega
        have hkp : ∀ w6, w5.drew.grownBy w6 (.slice A1 0 c1 : Value).ownBlock → w6.cell? ⟨w2.heap.size, 1, none⟩ = some (.slice Ar5 lr5.length cr5) := by
         intro w6 hg
         refine (World.cell?_of_block (a := ⟨w2.heap.size, 1, none⟩) (hg.block w2.heap.size hD5.bk.lt (fun e => (hnd5 _ e.symm).1 (.inl rfl)))).trans e5
        have hsz5 := hF5.size
        have HD5 := Lib.hid hD5
        have HF5 := Lib.hid hF5
        have HS5 := Lib.hid hS5
        have HVR5 := Lib.hid hvr5
        have HA5 := Lib.hid ha5
        have HB5 := Lib.hid hb5
        have HSRC := Lib.hid hsrc
        have HOWN5 := Lib.hid hown5
        have HND5 := Lib.hid hnd5
        have HKP := Lib.hid hkp
        have HV2 := Lib.hid v2
        clear hD5 hF5 hS5 hvr5 ha5 hb5 hsrc hown hown5 hnd5 hkp n1 v1 v2
        go_wp2_with fail
        go_region_held3 (fun w' => w'.cell? ⟨w2.heap.size, 1, none⟩ = some (.slice Ar5 lr5.length cr5)) (go_keep)
         ((refine step_append_u32 _ (by rfl) _ _ _ (by rfl) w.heap.size 81 i0 Tryz.underlying22 hi0 hz0 hz1 hz2 (.slice A1 0 c1) [] (by rfl) HOWN5.out w5.heap.size Ar5 lr5.length cr5 lr5 (by rfl) HSRC.out (by simp; omega) (by simp; omega) ?_; intro v6 w6 hown6 hgrow6 hat6; have hq6 := HKP.out _ hgrow6; have HOWN6 := Lib.hid hown6; have HGROW6 := Lib.hid hgrow6; have HAT6 := Lib.hid hat6; clear hown6 hgrow6 hat6))
        go_wp2
        go_roundg (val lr5)
        case measure =>
         have h4 := Nat.mod_lt (val la) HBP.out
         have := HV2.out
         omega
        case rel =>
         have hat6 := HAT6.out
         have hgrow6 := HGROW6.out
         have hv6 : ∀ k, v6.ownBlock = some k → (Value.slice A1 0 c1).ownBlock = some k ∨ k = w5.heap.size := by
          intro k hk
          rcases hat6 with h | h
          · left; rw [← h]; exact hk
          · right
            rw [hk] at h
            exact Option.some.inj h
         have hS6 : ∀ k, DS w2.heap.size vq5 vr5 vy5 k → k < w5.heap.size ∧ some k ≠ (Value.slice A1 0 c1).ownBlock := by
          intro k hk
          refine ⟨?_, fun e => (HND5.out k e.symm).1 hk⟩
          rcases hk with h | h | h | h
          · rw [h]; exact HD5.out.bk.lt
          · exact (HD5.out.q.block k h).2
          · exact (HD5.out.r.block k h).2
          · exact (HD5.out.b.block k h).2
         have hvb6 : ∀ k, (Value.slice A2' lb.length c2').ownBlock = some k → k < wr.heap.size ∧ ¬ DS w2.heap.size vq5 vr5 vy5 k := by
          intro k hk
          have h1 := (HG.out.b.block k hk).2
          refine ⟨h1, fun h => ?_⟩
          rcases HS5.out k h with h3 | h3
          · exact HND2.out k hk h3
          · omega
         have hap6 : ∀ v, (∀ k, v.ownBlock = some k → DS w2.heap.size vq5 vr5 vy5 k) → Ap (.slice A2' lb.length c2') v ∧ Ap v6 v := by
          intro v hv
          refine ⟨fun k h1 h2 => (hvb6 k h1).2 (hv k h2), fun k h1 h2 => ?_⟩
          have h3 := hS6 k (hv k h2)
          rcases hv6 k h1 with h | h
          · exact h3.2 h.symm
          · omega
         have hq6' := hap6 vq5 (fun k h => .inr (.inl h))
         have hr6' := hap6 vr5 (fun k h => .inr (.inr (.inl h)))
         have hy6' := hap6 vy5 (fun k h => .inr (.inr (.inr h)))
         have hDS0 : ∀ k, k < w.heap.size → ¬ DS w2.heap.size vq vr vy k := by
          intro k hk h
          have hgd := HG.out.gd
          rcases h with h | h | h | h
          · omega
          · have := (HG.out.d.q.block k h).1; omega
          · have := (HG.out.d.r.block k h).1; omega
          · have := (HG.out.d.b.block k h).1; omega
         have hbel : Below w.heap.size w w6 := by
          refine (HG.out.below.trans (HF5.out.below hwr hDS0)).trans (((Below.refl w.heap.size w5).drew).grown hgrow6 (by simp; omega) (fun k e => ?_))
          rw [own_block_eq (n' := la.length) (c' := c1)] at e
          exact (HA5.out.block k e).1
         refine ⟨_, _, vq5, vr5, vy5, lb, [] ++ lr5, lq5, lr5, ly5, rfl, rfl, ⟨⟨?_, ?_, ?_, ?_, HD5.out.qr, HD5.out.qb, HD5.out.rb⟩, ?_, HOWN6.out, HG.out.nb, n2, ?_, hq6'.1, hr6'.1, hy6'.1, hq6'.2, hr6'.2, hy6'.2, HG.out.gd, hbel⟩, ?_, Nat.le_refl _, hlb, Nat.le_trans hl5 hlb⟩
         · exact (hgrow6.block _ HD5.out.bk.lt (hS6 _ (.inl rfl)).2).trans HD5.out.bk
         · exact HD5.out.q.keep fun k hk => hgrow6.block k (HD5.out.q.block k hk).2 (hS6 k (.inr (.inl hk))).2
         · exact HD5.out.r.keep fun k hk => hgrow6.block k (HD5.out.r.block k hk).2 (hS6 k (.inr (.inr (.inl hk)))).2
         · exact HD5.out.b.keep fun k hk => hgrow6.block k (HD5.out.b.block k hk).2 (hS6 k (.inr (.inr (.inr hk)))).2
         · refine HB5.out.keep fun k hk => hgrow6.block k (HB5.out.block k hk).2 (fun e => ?_)
           rw [own_block_eq (n' := la.length) (c' := c1)] at e
           exact HG.out.ab k e.symm hk
         · intro k h1 h2
           rcases hv6 k h2 with h | h
           · rw [own_block_eq (n' := la.length) (c' := c1)] at h
             exact HG.out.ab k h h1
           · have := (HB5.out.block k h1).2; omega
         · show Nat.gcd (val a) (val b) = Nat.gcd (val lb) (val lr5)
           rw [hgcd.out, HV2.out, Nat.gcd_comm, Nat.gcd_rec, Nat.gcd_comm]
      · have h2 : 2 < lb.length := by omega
        go_wp2_with fail
        refine HDIV.out.mono ?_
        rintro e w5 ⟨rfl, vq5, vr5, vy5, lq5, lr5, ly5, hD5, n1, v1, n2, v2, hF5, hS5⟩
        obtain ⟨Ar5, cr5, hvr5⟩ := hD5.r.form
        have ha5 : OwnL w5 w.heap.size 81 (.slice A1 la.length c1) la := HG.out.a.keep fun k hk => hF5.block k (HG.out.a.block k hk).2 (HND1.out k hk)
        have hb5 : OwnL w5 w.heap.size 81 (.slice A2' lb.length c2') lb := HG.out.b.keep fun k hk => hF5.block k (HG.out.b.block k hk).2 (HND2.out k hk)
        have e5 : w5.cell? ⟨w2.heap.size, 1, none⟩ = some (.slice Ar5 lr5.length cr5) := by
         have := hD5.bk.cell 1
         rw [hvr5] at this
         simpa using this
        have hsrc : Lim w5.drew w5.heap.size Ar5 lr5.length cr5 lr5 := by
         have := hD5.r
         rw [hvr5] at this
         exact this.lim'.drew
        have hown := ha5.cut (m := 0) (Nat.zero_le _)
        rw [List.take_zero] at hown
        have hown5 : OwnL w5.drew w.heap.size 81 (.slice A1 0 c1) [] := hown.keep fun _ _ => rfl
        have hl5 : lr5.length ≤ lb.length := by
         rcases Nat.lt_or_ge lb.length lr5.length with h | h
         · exfalso
           have h3 := norm_len_lt HG.out.b.bd n2 h
           have h4 := Nat.mod_lt (val la) HBP.out
           omega
         · exact h
        have hnd5 : ∀ k, (Value.slice A1 0 c1).ownBlock = some k → ¬ DS w2.heap.size vq5 vr5 vy5 k ∧ k < w5.heap.size ∧ k < wr.heap.size := by
         intro k hk
         rw [own_block_eq (n' := la.length) (c' := c1)] at hk
         refine ⟨fun h => ?_, (ha5.block k hk).2, (HG.out.a.block k hk).2⟩
         rcases hS5 k h with h3 | h3
         · exact HND1.out k hk h3
         · have := (HG.out.a.block k hk).2; omega
        have hkp : ∀ w6, w5.drew.grownBy w6 (.slice A1 0 c1 : Value).ownBlock → w6.cell? ⟨w2.heap.size, 1, none⟩ = some (.slice Ar5 lr5.length cr5) := by
         intro w6 hg
         refine (World.cell?_of_block (a := ⟨w2.heap.size, 1, none⟩) (hg.block w2.heap.size hD5.bk.lt (fun e => (hnd5 _ e.symm).1 (.inl rfl)))).trans e5
        have hsz5 := hF5.size
        have HD5 := Lib.hid hD5
        have HF5 := Lib.hid hF5
        have HS5 := Lib.hid hS5
        have HVR5 := Lib.hid hvr5
        have HA5 := Lib.hid ha5
        have HB5 := Lib.hid hb5
        have HSRC := Lib.hid hsrc
        have HOWN5 := Lib.hid hown5
        have HND5 := Lib.hid hnd5
        have HKP := Lib.hid hkp
        have HV2 := Lib.hid v2
        clear hD5 hF5 hS5 hvr5 ha5 hb5 hsrc hown hown5 hnd5 hkp n1 v1 v2
        go_wp2_with fail
        go_region_held3 (fun w' => w'.cell? ⟨w2.heap.size, 1, none⟩ = some (.slice Ar5 lr5.length cr5)) (go_keep)
         ((refine step_append_u32 _ (by rfl) _ _ _ (by rfl) w.heap.size 81 i0 Tryz.underlying22 hi0 hz0 hz1 hz2 (.slice A1 0 c1) [] (by rfl) HOWN5.out w5.heap.size Ar5 lr5.length cr5 lr5 (by rfl) HSRC.out (by simp; omega) (by simp; omega) ?_; intro v6 w6 hown6 hgrow6 hat6; have hq6 := HKP.out _ hgrow6; have HOWN6 := Lib.hid hown6; have HGROW6 := Lib.hid hgrow6; have HAT6 := Lib.hid hat6; clear hown6 hgrow6 hat6))
        go_wp2
        go_roundg (val lr5)
        case measure =>
         have h4 := Nat.mod_lt (val la) HBP.out
         have := HV2.out
         omega
        case rel =>
         have hat6 := HAT6.out
         have hgrow6 := HGROW6.out
         have hv6 : ∀ k, v6.ownBlock = some k → (Value.slice A1 0 c1).ownBlock = some k ∨ k = w5.heap.size := by
          intro k hk
          rcases hat6 with h | h
          · left; rw [← h]; exact hk
          · right
            rw [hk] at h
            exact Option.some.inj h
         have hS6 : ∀ k, DS w2.heap.size vq5 vr5 vy5 k → k < w5.heap.size ∧ some k ≠ (Value.slice A1 0 c1).ownBlock := by
          intro k hk
          refine ⟨?_, fun e => (HND5.out k e.symm).1 hk⟩
          rcases hk with h | h | h | h
          · rw [h]; exact HD5.out.bk.lt
          · exact (HD5.out.q.block k h).2
          · exact (HD5.out.r.block k h).2
          · exact (HD5.out.b.block k h).2
         have hvb6 : ∀ k, (Value.slice A2' lb.length c2').ownBlock = some k → k < wr.heap.size ∧ ¬ DS w2.heap.size vq5 vr5 vy5 k := by
          intro k hk
          have h1 := (HG.out.b.block k hk).2
          refine ⟨h1, fun h => ?_⟩
          rcases HS5.out k h with h3 | h3
          · exact HND2.out k hk h3
          · omega
         have hap6 : ∀ v, (∀ k, v.ownBlock = some k → DS w2.heap.size vq5 vr5 vy5 k) → Ap (.slice A2' lb.length c2') v ∧ Ap v6 v := by
          intro v hv
          refine ⟨fun k h1 h2 => (hvb6 k h1).2 (hv k h2), fun k h1 h2 => ?_⟩
          have h3 := hS6 k (hv k h2)
          rcases hv6 k h1 with h | h
          · exact h3.2 h.symm
          · omega
         have hq6' := hap6 vq5 (fun k h => .inr (.inl h))
         have hr6' := hap6 vr5 (fun k h => .inr (.inr (.inl h)))
         have hy6' := hap6 vy5 (fun k h => .inr (.inr (.inr h)))
         have hDS0 : ∀ k, k < w.heap.size → ¬ DS w2.heap.size vq vr vy k := by
          intro k hk h
          have hgd := HG.out.gd
          rcases h with h | h | h | h
          · omega
          · have := (HG.out.d.q.block k h).1; omega
          · have := (HG.out.d.r.block k h).1; omega
          · have := (HG.out.d.b.block k h).1; omega
         have hbel : Below w.heap.size w w6 := by
          refine (HG.out.below.trans (HF5.out.below hwr hDS0)).trans (((Below.refl w.heap.size w5).drew).grown hgrow6 (by simp; omega) (fun k e => ?_))
          rw [own_block_eq (n' := la.length) (c' := c1)] at e
          exact (HA5.out.block k e).1
         refine ⟨_, _, vq5, vr5, vy5, lb, [] ++ lr5, lq5, lr5, ly5, rfl, rfl, ⟨⟨?_, ?_, ?_, ?_, HD5.out.qr, HD5.out.qb, HD5.out.rb⟩, ?_, HOWN6.out, HG.out.nb, n2, ?_, hq6'.1, hr6'.1, hy6'.1, hq6'.2, hr6'.2, hy6'.2, HG.out.gd, hbel⟩, ?_, Nat.le_refl _, hlb, Nat.le_trans hl5 hlb⟩
         · exact (hgrow6.block _ HD5.out.bk.lt (hS6 _ (.inl rfl)).2).trans HD5.out.bk
         · exact HD5.out.q.keep fun k hk => hgrow6.block k (HD5.out.q.block k hk).2 (hS6 k (.inr (.inl hk))).2
         · exact HD5.out.r.keep fun k hk => hgrow6.block k (HD5.out.r.block k hk).2 (hS6 k (.inr (.inr (.inl hk)))).2
         · exact HD5.out.b.keep fun k hk => hgrow6.block k (HD5.out.b.block k hk).2 (hS6 k (.inr (.inr (.inr hk)))).2
         · refine HB5.out.keep fun k hk => hgrow6.block k (HB5.out.block k hk).2 (fun e => ?_)
           rw [own_block_eq (n' := la.length) (c' := c1)] at e
           exact HG.out.ab k e.symm hk
         · intro k h1 h2
           rcases hv6 k h2 with h | h
           · rw [own_block_eq (n' := la.length) (c' := c1)] at h
             exact HG.out.ab k h h1
           · have := (HB5.out.block k h1).2; omega
         · show Nat.gcd (val a) (val b) = Nat.gcd (val lb) (val lr5)
           rw [hgcd.out, HV2.out, Nat.gcd_comm, Nat.gcd_rec, Nat.gcd_comm]
end Go.Proofs.YthlfhfkfjefidaaGreat
