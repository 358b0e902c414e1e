/- Chapter 8, walks: the reference's Move. -/
import Derived.Test.YtmcefodfppdajaaMvL8
import Derived.Test.YtmcefodfppdajaaCnt8
namespace Go.Proofs.Ytmcefodfppdajaa
open Go.RowKit Go.Maps Go.Deep

/-- A stock whose entries may be moved. -/
def Good8 (l : List Q4) : Prop := ∀ y ∈ l, shOk (keyQ y) ∧ 0 ≤ y.c ∧ y.c ≤ 1000000
theorem Good8.fin {l : List Q4} (h : Good8 l) : Fin_ (cntS l) := fun k hk => by
  by_cases hx : ∃ x ∈ l, keyQ x = k
  · obtain ⟨x, hx, rfl⟩ := hx
    exact (h x hx).1
  · exact absurd (cntS_none fun x hx' e => hx ⟨x, hx', e⟩) hk
theorem Good8.pos {l : List Q4} (h : Good8 l) (hn : l.length ≤ 1000) : Pos8 (cntS l) := fun k => by
  have := cntS_bd (k := k) (l := l) fun x hx => (h x hx).2
  constructor <;> omega
theorem mv_settle {c : Sh → Int} {x : Mo} {L : List Q4} (hL : Asc L) (hc : ∀ k, cntS L k = mvC c x k) (hf : Fin_ (mvC c x)) (h0 : moErr x = 0) (h1 : ¬ (x.f ≠ -1 ∧ c (x.p, x.f, x.b) < x.n)) :
    setE (manyL L) = mvErr c x ∧ (mvErr c x = 0 → NF (setL (manyL L) L) (mvC c x) ∧ (setL (manyL L) L).length ≤ 200) ∧ (mvErr c x ≠ 0 → setL (manyL L) L = []) := by
  have hm := many_eq hL hc hf
  have he : setE (manyL L) = mvErr c x := by
    unfold mvErr
    rw [if_pos h0, if_neg h1, hm]
    cases manyB (mvC c x) <;> rfl
  rw [← he]
  have hnf := nzL_nf hL
  cases hM : manyL L with
  | true => exact ⟨rfl, fun h => (by cases h), fun _ => rfl⟩
  | false =>
    refine ⟨rfl, fun _ => ⟨⟨hnf.asc, hnf.nz, fun k => (hnf.cnt k).trans (hc k)⟩, ?_⟩, fun h => absurd rfl h⟩
    unfold manyL at hM
    rw [Bool.or_eq_false_iff] at hM
    have := hM.2
    show (nzL L).length ≤ 200
    simpa using this
theorem putL_upd {x : Q4} {L : List Q4} {c : Sh → Int} (h : ∀ k, cntS L k = c k) (k : Sh) : cntS (putL x L) k = upd c (keyQ x) x.c k := by
  rw [putL_cnt, h, upd]
  by_cases hk : k = keyQ x
  · rw [if_pos hk, if_pos hk.symm]
  · rw [if_neg hk, if_neg (Ne.symm hk)]
    omega
set_option maxRecDepth 100000 in
set_option maxHeartbeats 16000000 in
theorem refMove_any (A : Option Addr) (n ca : Nat) (l : List Q4) (x : Mo) (w : World) (h : Rws Q4.cs 4 w w.heap.size A n ca l) (hn : n ≤ 1000) (hg : Good8 l) (hp : x.p.size ≤ 30) :
    Calls Try.prog 29 #[.slice A n ca, .agg #[.string x.p, .int .i64 x.f, .int .i64 x.t, .int .i64 x.b, .int .i64 x.a, .int .i64 x.n]] w fun e w' => Below w.heap.size w w' ∧ ∃ (v : Value) (R : List Q4), e = .returned (.tuple #[v, .int .i64 (mvErr (cntS l) x)]) ∧ ((mvErr (cntS l) x = 0 → NF R (mvC (cntS l) x) ∧ R.length ≤ 200) ∧ (mvErr (cntS l) x ≠ 0 → R = [])) ∧ w'.ownsRow w.heap.size 103 4 v R.length (R.flatMap Q4.cs) := by
  have hcap := h.cap
  have hmax := h.max
  have HLEN := Lib.hid h.len
  have H : Hid (∀ w', Below w.heap.size w w' → Rws Q4.cs 4 w' w'.heap.size A n ca l) := Lib.hid fun w' hb => h.below hb (Nat.le_refl _) hb.size
  obtain ⟨E, hE⟩ : ∃ E, moErr x = E := ⟨_, rfl⟩
  have CM : Hid (∀ W, Calls Try.prog 23 #[.agg #[.string x.p, .int .i64 x.f, .int .i64 x.t, .int .i64 x.b, .int .i64 x.a, .int .i64 x.n]] W fun e w' => Below W.heap.size W w' ∧ e = .returned (.int .i64 E)) := Lib.hid fun W => by rw [← hE]; exact refCheckMovement_any x W hp
  have HG := Lib.hid hg
  have HN := Lib.hid hn
  by_cases h0 : E = 0
  rotate_left
  · have hZ : mvErr (cntS l) x = E := by unfold mvErr; rw [hE, if_neg h0]
    rw [hZ]
    have HZ0 := Lib.hid h0
    have hq : (E != 0) = true := by simpa using h0
    clear h0 hE h hZ hg
    obtain ⟨p, f, t, b, a, m⟩ := x
    dsimp only at hp CM ⊢
    go_enter Try.func29, Try.ntmps29
    go_wp2_with (go_at_call 23; with_reducible refine (CM.out _).mono ?_; rintro e w1 ⟨hb1, rfl⟩; have HB1 : Hid (Below w.heap.size w w1) := Lib.hid (((Below.refl _ w).alloc (Nat.le_refl _) _).trans (hb1.mono (by simp))); have HX1 : Hid (Bk w1 w.heap.size 41 #[.string p, .int .i64 f, .int .i64 t, .int .i64 b, .int .i64 a, .int .i64 m]) := Lib.hid ((Bk.at_ rfl).below hb1 (by simp)); have ow1 := HB1.out.size; have ox1 := HX1.out.lt; clear hb1)
    go_ret2
    exact ⟨HB1.out, .slice none 0 0, [], rfl, ⟨fun hh => absurd hh HZ0.out, fun _ => rfl⟩, World.ownsRow_nil _ _ _ _⟩
  subst h0
  obtain ⟨-, hr, hpm⟩ := moErr_zero hE
  obtain ⟨hf, ht, hb, ha, hnn⟩ := moR_iff hr
  obtain ⟨p, f, t, b, a, m⟩ := x
  dsimp only at hp CM hf ht hb ha hnn ⊢
  have hneg : IntKind.i64.wrap (-m) = -m := IntWalk.i64_in _ (by constructor <;> omega)
  have HPM := Lib.hid hpm
  have HE := Lib.hid hE
  have HHP := Lib.hid hp
  clear h hg hE hr hpm hp
  go_enter Try.func29, Try.ntmps29
  go_wp2_with (go_at_call 23; with_reducible refine (CM.out _).mono ?_; rintro e w1 ⟨hb1, rfl⟩; have HB1 : Hid (Below w.heap.size w w1) := Lib.hid (((Below.refl _ w).alloc (Nat.le_refl _) _).trans (hb1.mono (by simp))); have HX1 : Hid (Bk w1 w.heap.size 41 #[.string p, .int .i64 f, .int .i64 t, .int .i64 b, .int .i64 a, .int .i64 m]) := Lib.hid ((Bk.at_ rfl).below hb1 (by simp)); have ow1 := HB1.out.size; have ox1 := HX1.out.lt; clear hb1)
  have PT : Hid (∀ (k : Nat) (x : Q4) (v : Value) (W : World), l[k]? = some x → W.ownsRow w1.heap.size 103 4 v (foldL (l.take k)).length ((foldL (l.take k)).flatMap Q4.cs) → w1.heap.size ≤ W.heap.size → Calls Try.prog 60 #[v, .agg #[.string x.s, .int .i64 x.a, .int .i64 x.b, .int .i64 x.c]] W fun e w' => Below W.heap.size W w' ∧ ∃ v, e = .returned v ∧ w'.ownsRow w1.heap.size 103 4 v (foldL (l.take (k + 1))).length ((foldL (l.take (k + 1))).flatMap Q4.cs)) := Lib.hid fun k x v W hx ho hW => by
    obtain ⟨A2, c2, rfl, hr⟩ := Rws.of_own ho rfl
    have hmem := List.mem_of_getElem? hx
    have hb := (HG.out x hmem).2
    have hlen := HLEN.out
    have hll : (foldL (l.take k)).length ≤ 10000 := Nat.le_trans (foldL_len _) (by simp; omega)
    have hbd : Bd8 (cntS (l.take k)) := fun q => by
      have := cntS_bd (k := q) (l := l.take k) fun y hy => (HG.out y (List.mem_of_mem_take hy)).2
      have hlt : ((l.take k).length : Int) ≤ 1000 := by simp; omega
      constructor <;> omega
    refine (refPut_any A2 _ c2 _ x.s x.a x.b x.c W hr hll (by omega) (bd8_mem (foldL_asc _) (fun q => foldL_c q) hbd)).mono ?_
    rintro e w' ⟨hb', v, rfl, ho'⟩
    refine ⟨hb', v, rfl, ?_⟩
    rw [foldL_step hx]
    exact own_base ho' hW
  go_loopw [7, 8] (fun v i wr => ∃ k : Nat, k ≤ n ∧ i = .int .i64 k ∧ Hid (wr.ownsRow w1.heap.size 103 4 v (foldL (l.take k)).length ((foldL (l.take k)).flatMap Q4.cs)) ∧ Hid (Below w1.heap.size w1 wr)) (fun _ i _ => n - (intOf i).toNat)
  case atStart => exact ⟨0, Nat.zero_le _, rfl, Lib.hid (World.ownsRow_nil _ _ _ _), Lib.hid (Below.refl _ _)⟩
  case round =>
    obtain ⟨k, hk, rfl, HO, HB⟩ := hrel
    have ow := HB.out.size
    by_cases hlt : k < n
    · obtain ⟨b', o, ⟨ys, ya, yb, yc⟩, rfl, hbb, hy, c0, c1, c2, c3⟩ := (H.out _ (HB1.out.trans (HB.out.mono ow1))).q4 hlt
      dsimp only at c0 c1 c2 c3
      have HP := Lib.hid (PT.out k _ _ wr hy HO.out ow)
      clear hy
      go_wp2_with (go_at_call 60; go_loud (with_reducible refine HP.out.mono ?_; rintro e w5 ⟨hb5, v5, rfl, ho5⟩; have HO5 := Lib.hid ho5; have HB5 : Hid (Below w1.heap.size w1 w5) := Lib.hid (HB.out.trans (hb5.mono ow)); clear ho5 hb5))
      go_roundw
      case rel => exact ⟨k + 1, by omega, by go_num, HO5, HB5⟩
      case measure => simp [intOf]; omega
    · obtain rfl : k = n := by omega
      have hkl : l.take k = l := List.take_of_length_le (by rw [HLEN.out]; exact Nat.le_refl _)
      rw [hkl] at HO
      clear hkl
      have HXr : Hid (Bk wr w.heap.size 41 #[.string p, .int .i64 f, .int .i64 t, .int .i64 b, .int .i64 a, .int .i64 m]) := Lib.hid (HX1.out.below HB.out ox1)
      obtain ⟨x0, x1, x2, x3, x4, x5⟩ := HXr.out.sixc
      have HLL : Hid ((foldL l).length ≤ 1000) := Lib.hid (Nat.le_trans (foldL_len _) (by rw [HLEN.out]; exact HN.out))
      have hpos := HG.out.pos (by rw [HLEN.out]; exact HN.out)
      have hp := HHP.out
      have hE := HE.out
      by_cases h1 : f = -1
      · have h2 : t ≠ -1 := perm_out HPM.out h1
        have hq1 : decide (0 ≤ f) = false := by simp; omega
        have hq2 : decide (0 ≤ t) = true := by simp; omega
        have HC : Hid (mvC (cntS l) ⟨p, f, t, b, a, m⟩ = upd (cntS l) (p, t, a) m) := Lib.hid (by unfold mvC mvF; dsimp only; rw [if_neg h2, if_pos h1])
        have P1 : Hid (∀ (v : Value) (W : World), W.ownsRow w1.heap.size 103 4 v (foldL l).length ((foldL l).flatMap Q4.cs) → w1.heap.size ≤ W.heap.size → Calls Try.prog 60 #[v, .agg #[.string p, .int .i64 t, .int .i64 a, .int .i64 (m)]] W fun e w' => Below W.heap.size W w' ∧ ∃ v, e = .returned v ∧ w'.ownsRow w1.heap.size 103 4 v (putL ⟨p, t, a, m⟩ (foldL l)).length ((putL ⟨p, t, a, m⟩ (foldL l)).flatMap Q4.cs)) := Lib.hid fun v W ho hW => by
          obtain ⟨A2, c2, rfl, hr⟩ := Rws.of_own ho rfl
          refine (refPut_any A2 _ c2 _ p t a m W hr (by have := HLL.out; omega) (by omega) (bd8_mem (foldL_asc _) (fun _ => rfl) (fun q => by rw [foldL_c]; have := hpos q; constructor <;> omega))).mono ?_
          rintro e w' ⟨hb', v, rfl, ho'⟩
          exact ⟨hb', v, rfl, own_base ho' hW⟩
        have hcn : ∀ k, cntS (putL ⟨p, t, a, m⟩ (foldL l)) k = mvC (cntS l) ⟨p, f, t, b, a, m⟩ k := fun k => by rw [HC.out]; exact putL_upd (fun q => foldL_c q) k
        have hlen : (putL ⟨p, t, a, m⟩ (foldL l)).length ≤ 10000 := by have := HLL.out; have := putL_len (x := ⟨p, t, a, m⟩) (foldL l); omega
        have hS := mv_settle (c := cntS l) (x := ⟨p, f, t, b, a, m⟩) (putL_asc (foldL_asc _)) hcn (mvC_fin HG.out.fin hp hE) hE (fun hh => hh.1 h1)
        obtain ⟨R, hR⟩ : ∃ R, setL (manyL (putL ⟨p, t, a, m⟩ (foldL l))) (putL ⟨p, t, a, m⟩ (foldL l)) = R := ⟨_, rfl⟩
        obtain ⟨Z, hZ⟩ : ∃ Z, mvErr (cntS l) ⟨p, f, t, b, a, m⟩ = Z := ⟨_, rfl⟩
        have ST : Hid (∀ (v : Value) (W : World), W.ownsRow w1.heap.size 103 4 v (putL ⟨p, t, a, m⟩ (foldL l)).length ((putL ⟨p, t, a, m⟩ (foldL l)).flatMap Q4.cs) → w1.heap.size ≤ W.heap.size → Calls Try.prog 61 #[v] W fun e w' => Below W.heap.size W w' ∧ ∃ v, e = .returned (.tuple #[v, .int .i64 Z]) ∧ w'.ownsRow w1.heap.size 103 4 v R.length (R.flatMap Q4.cs)) := Lib.hid fun v W ho hW => by
          obtain ⟨A2, c2, rfl, hr⟩ := Rws.of_own ho rfl
          have := settled_any A2 _ c2 _ W hr hlen
          rw [hR, hS.1, hZ] at this
          refine this.mono ?_
          rintro e w' ⟨hb', v, rfl, ho'⟩
          exact ⟨hb', v, rfl, own_base ho' hW⟩
        rw [hR, hZ] at hS
        have HS := Lib.hid hS
        have HZ := Lib.hid hZ
        clear hS hR hZ
        clear h1 h2 hE hpos hp hcn hlen
        go_wp2_with (first | (go_at_call 60; go_loud (with_reducible refine (P1.out _ _ HO.out (by have := HB.out.size; omega)).mono ?_; rintro e w3 ⟨hb3, v3, rfl, ho3⟩; have HO3 := Lib.hid ho3; have HB3 : Hid (Below w1.heap.size w1 w3) := Lib.hid (HB.out.trans (hb3.mono HB.out.size)); obtain ⟨x0, x1, x2, x3, x4, x5⟩ := (HX1.out.below HB3.out ox1).sixc; clear hb3 ho3)) | (go_at_call 61; go_loud (with_reducible refine (ST.out _ _ HO3.out (by have := HB3.out.size; omega)).mono ?_; rintro e w9 ⟨hb9, v9, rfl, ho9⟩; have HO9 := Lib.hid ho9; have HB9 : Hid (Below w.heap.size w w9) := Lib.hid (HB1.out.trans ((HB3.out.trans (hb9.mono HB3.out.size)).mono ow1)); clear hb9 ho9)))
        go_ret2
        refine ⟨HB9.out, v9, R, ?_, ?_, own_base HO9.out ow1⟩
        · rw [HZ.out]; rfl
        · rw [HZ.out]; exact HS.out.2
      · have hq1 : decide (0 ≤ f) = true := by simp; omega
        obtain ⟨x, hx⟩ : ∃ x, cntS l (p, f, b) = x := ⟨_, rfl⟩
        have RC : Hid (∀ W, Below w1.heap.size w1 W → Calls Try.prog 21 #[.slice A k ca, .string p, .agg #[.int .i64 f, .int .i64 b]] W fun e w' => Below W.heap.size W w' ∧ e = .returned (.int .i64 x)) := Lib.hid fun W hW => by rw [← hx]; exact refCount_any A k ca l p f b W (H.out _ (HB1.out.trans (hW.mono ow1))) HN.out fun y hy => by have := (HG.out y hy).2; omega
        have ows : w1.heap.size ≤ wr.drew.heap.size := ow
        have HBd : Hid (Below w1.heap.size w1 wr.drew) := Lib.hid HB.out.drew
        have HXd : Hid (Bk wr.drew w.heap.size 41 #[.string p, .int .i64 f, .int .i64 t, .int .i64 b, .int .i64 a, .int .i64 m]) := HXr
        have olt : w.heap.size < wr.drew.heap.size := HXr.out.lt
        have HOd : Hid (wr.drew.ownsRow w1.heap.size 103 4 u7 (foldL l).length ((foldL l).flatMap Q4.cs)) := HO
        by_cases hlt2 : x < m
        · have HZ : Hid (mvErr (cntS l) ⟨p, f, t, b, a, m⟩ = 22) := Lib.hid (by unfold mvErr; rw [if_pos hE, if_pos ⟨h1, by rw [hx]; exact hlt2⟩])
          clear h1 hE hpos hp hx
          go_wp2
          go_region_held3 (fun w' => w'.cell? ⟨w.heap.size, 0, none⟩ = some (.string p) ∧ w'.cell? ⟨w.heap.size, 1, none⟩ = some (.int .i64 f) ∧ w'.cell? ⟨w.heap.size, 3, none⟩ = some (.int .i64 b) ∧ w'.cell? ⟨w.heap.size, 5, none⟩ = some (.int .i64 m)) (go_keep)
            ((go_at_call 21; go_loud (with_reducible refine (RC.out _ HBd.out).mono ?_; rintro e w2 ⟨hb2, rfl⟩; have HB2 : Hid (Below w1.heap.size w1 w2) := Lib.hid (HBd.out.trans (hb2.mono ows)); have HX2 := Lib.hid (HXd.out.below hb2 olt); have HO2 := Lib.hid (own_step HOd.out hb2); obtain ⟨y0, y1, y2, y3, y4, y5⟩ := HX2.out.sixc; clear hb2)))
          all_goals
            go_wp2
            go_ret2
            refine ⟨HB1.out.trans (HB2.out.mono ow1), .slice none 0 0, [], ?_, ⟨?_, ?_⟩, World.ownsRow_nil _ _ _ _⟩
            · rw [HZ.out]; rfl
            · rw [HZ.out]; exact fun hh => absurd hh (by decide)
            · exact fun _ => rfl
        · have hns : ¬ ((⟨p, f, t, b, a, m⟩ : Mo).f ≠ -1 ∧ cntS l (p, f, b) < m) := fun hh => hlt2 (by rw [← hx]; exact hh.2)
          have hxm := hpos (p, f, b)
          have P1 : Hid (∀ (v : Value) (W : World), W.ownsRow w1.heap.size 103 4 v (foldL l).length ((foldL l).flatMap Q4.cs) → w1.heap.size ≤ W.heap.size → Calls Try.prog 60 #[v, .agg #[.string p, .int .i64 f, .int .i64 b, .int .i64 (-m)]] W fun e w' => Below W.heap.size W w' ∧ ∃ v, e = .returned v ∧ w'.ownsRow w1.heap.size 103 4 v (putL ⟨p, f, b, -m⟩ (foldL l)).length ((putL ⟨p, f, b, -m⟩ (foldL l)).flatMap Q4.cs)) := Lib.hid fun v W ho hW => by
            obtain ⟨A2, c2, rfl, hr⟩ := Rws.of_own ho rfl
            refine (refPut_any A2 _ c2 _ p f b (-m) W hr (by have := HLL.out; omega) (by omega) (bd8_mem (foldL_asc _) (fun _ => rfl) (fun q => by rw [foldL_c]; have := hpos q; constructor <;> omega))).mono ?_
            rintro e w' ⟨hb', v, rfl, ho'⟩
            exact ⟨hb', v, rfl, own_base ho' hW⟩
          have hl1 := putL_len (x := ⟨p, f, b, -m⟩) (foldL l)
          by_cases h2 : t = -1
          · have hq2 : decide (0 ≤ t) = false := by simp; omega
            have HC : Hid (mvC (cntS l) ⟨p, f, t, b, a, m⟩ = upd (cntS l) (p, f, b) (-m)) := Lib.hid (by unfold mvC mvF; dsimp only; rw [if_pos h2, if_neg h1])
            have hcn : ∀ k, cntS (putL ⟨p, f, b, -m⟩ (foldL l)) k = mvC (cntS l) ⟨p, f, t, b, a, m⟩ k := fun k => by rw [HC.out]; exact putL_upd (fun q => foldL_c q) k
            have hlen : (putL ⟨p, f, b, -m⟩ (foldL l)).length ≤ 10000 := by have := HLL.out; omega
            have hS := mv_settle (c := cntS l) (x := ⟨p, f, t, b, a, m⟩) (putL_asc (foldL_asc _)) hcn (mvC_fin HG.out.fin hp hE) hE hns
            obtain ⟨R, hR⟩ : ∃ R, setL (manyL (putL ⟨p, f, b, -m⟩ (foldL l))) (putL ⟨p, f, b, -m⟩ (foldL l)) = R := ⟨_, rfl⟩
            obtain ⟨Z, hZ⟩ : ∃ Z, mvErr (cntS l) ⟨p, f, t, b, a, m⟩ = Z := ⟨_, rfl⟩
            have ST : Hid (∀ (v : Value) (W : World), W.ownsRow w1.heap.size 103 4 v (putL ⟨p, f, b, -m⟩ (foldL l)).length ((putL ⟨p, f, b, -m⟩ (foldL l)).flatMap Q4.cs) → w1.heap.size ≤ W.heap.size → Calls Try.prog 61 #[v] W fun e w' => Below W.heap.size W w' ∧ ∃ v, e = .returned (.tuple #[v, .int .i64 Z]) ∧ w'.ownsRow w1.heap.size 103 4 v R.length (R.flatMap Q4.cs)) := Lib.hid fun v W ho hW => by
              obtain ⟨A2, c2, rfl, hr⟩ := Rws.of_own ho rfl
              have := settled_any A2 _ c2 _ W hr hlen
              rw [hR, hS.1, hZ] at this
              refine this.mono ?_
              rintro e w' ⟨hb', v, rfl, ho'⟩
              exact ⟨hb', v, rfl, own_base ho' hW⟩
            rw [hR, hZ] at hS
            have HS := Lib.hid hS
            have HZ := Lib.hid hZ
            clear hS hR hZ
            clear h1 h2 hE hpos hp hcn hlen hx hns hxm hl1
            go_wp2
            go_region_held3 (fun w' => w'.cell? ⟨w.heap.size, 0, none⟩ = some (.string p) ∧ w'.cell? ⟨w.heap.size, 1, none⟩ = some (.int .i64 f) ∧ w'.cell? ⟨w.heap.size, 3, none⟩ = some (.int .i64 b) ∧ w'.cell? ⟨w.heap.size, 5, none⟩ = some (.int .i64 m)) (go_keep)
              ((go_at_call 21; go_loud (with_reducible refine (RC.out _ HBd.out).mono ?_; rintro e w2 ⟨hb2, rfl⟩; have HB2 : Hid (Below w1.heap.size w1 w2) := Lib.hid (HBd.out.trans (hb2.mono ows)); have HX2 := Lib.hid (HXd.out.below hb2 olt); have HO2 := Lib.hid (own_step HOd.out hb2); obtain ⟨y0, y1, y2, y3, y4, y5⟩ := HX2.out.sixc; clear hb2)))
            all_goals
              go_wp2_with (first | (go_at_call 60; go_loud (with_reducible refine (P1.out _ _ HO2.out (by have := HB2.out.size; omega)).mono ?_; rintro e w3 ⟨hb3, v3, rfl, ho3⟩; have HO3 := Lib.hid ho3; have HB3 : Hid (Below w1.heap.size w1 w3) := Lib.hid (HB2.out.trans (hb3.mono HB2.out.size)); obtain ⟨x0, x1, x2, x3, x4, x5⟩ := (HX1.out.below HB3.out ox1).sixc; clear hb3 ho3)) | (go_at_call 61; go_loud (with_reducible refine (ST.out _ _ HO3.out (by have := HB3.out.size; omega)).mono ?_; rintro e w9 ⟨hb9, v9, rfl, ho9⟩; have HO9 := Lib.hid ho9; have HB9 : Hid (Below w.heap.size w w9) := Lib.hid (HB1.out.trans ((HB3.out.trans (hb9.mono HB3.out.size)).mono ow1)); clear hb9 ho9)))
              go_ret2
              refine ⟨HB9.out, v9, R, ?_, ?_, own_base HO9.out ow1⟩
              · rw [HZ.out]; rfl
              · rw [HZ.out]; exact HS.out.2
          · have hq2 : decide (0 ≤ t) = true := by simp; omega
            have HC : Hid (mvC (cntS l) ⟨p, f, t, b, a, m⟩ = upd (upd (cntS l) (p, f, b) (-m)) (p, t, a) m) := Lib.hid (by unfold mvC mvF; dsimp only; rw [if_neg h2, if_neg h1])
            have hc1 : ∀ k, cntS (putL ⟨p, f, b, -m⟩ (foldL l)) k = upd (cntS l) (p, f, b) (-m) k := fun k => putL_upd (fun q => foldL_c q) k
            have P2 : Hid (∀ (v : Value) (W : World), W.ownsRow w1.heap.size 103 4 v (putL ⟨p, f, b, -m⟩ (foldL l)).length ((putL ⟨p, f, b, -m⟩ (foldL l)).flatMap Q4.cs) → w1.heap.size ≤ W.heap.size → Calls Try.prog 60 #[v, .agg #[.string p, .int .i64 t, .int .i64 a, .int .i64 (m)]] W fun e w' => Below W.heap.size W w' ∧ ∃ v, e = .returned v ∧ w'.ownsRow w1.heap.size 103 4 v (putL ⟨p, t, a, m⟩ (putL ⟨p, f, b, -m⟩ (foldL l))).length ((putL ⟨p, t, a, m⟩ (putL ⟨p, f, b, -m⟩ (foldL l))).flatMap Q4.cs)) := Lib.hid fun v W ho hW => by
              obtain ⟨A2, c2, rfl, hr⟩ := Rws.of_own ho rfl
              refine (refPut_any A2 _ c2 _ p t a m W hr (by have := HLL.out; omega) (by omega) (bd8_mem (putL_asc (foldL_asc _)) (fun _ => rfl) (fun q => by rw [hc1]; unfold upd; have := hpos q; split <;> constructor <;> omega))).mono ?_
              rintro e w' ⟨hb', v, rfl, ho'⟩
              exact ⟨hb', v, rfl, own_base ho' hW⟩
            have hcn : ∀ k, cntS (putL ⟨p, t, a, m⟩ (putL ⟨p, f, b, -m⟩ (foldL l))) k = mvC (cntS l) ⟨p, f, t, b, a, m⟩ k := fun k => by rw [HC.out]; exact putL_upd hc1 k
            have hlen : (putL ⟨p, t, a, m⟩ (putL ⟨p, f, b, -m⟩ (foldL l))).length ≤ 10000 := by have := HLL.out; have := putL_len (x := ⟨p, t, a, m⟩) (putL ⟨p, f, b, -m⟩ (foldL l)); omega
            have hS := mv_settle (c := cntS l) (x := ⟨p, f, t, b, a, m⟩) (putL_asc (putL_asc (foldL_asc _))) hcn (mvC_fin HG.out.fin hp hE) hE hns
            obtain ⟨R, hR⟩ : ∃ R, setL (manyL (putL ⟨p, t, a, m⟩ (putL ⟨p, f, b, -m⟩ (foldL l)))) (putL ⟨p, t, a, m⟩ (putL ⟨p, f, b, -m⟩ (foldL l))) = R := ⟨_, rfl⟩
            obtain ⟨Z, hZ⟩ : ∃ Z, mvErr (cntS l) ⟨p, f, t, b, a, m⟩ = Z := ⟨_, rfl⟩
            have ST : Hid (∀ (v : Value) (W : World), W.ownsRow w1.heap.size 103 4 v (putL ⟨p, t, a, m⟩ (putL ⟨p, f, b, -m⟩ (foldL l))).length ((putL ⟨p, t, a, m⟩ (putL ⟨p, f, b, -m⟩ (foldL l))).flatMap Q4.cs) → w1.heap.size ≤ W.heap.size → Calls Try.prog 61 #[v] W fun e w' => Below W.heap.size W w' ∧ ∃ v, e = .returned (.tuple #[v, .int .i64 Z]) ∧ w'.ownsRow w1.heap.size 103 4 v R.length (R.flatMap Q4.cs)) := Lib.hid fun v W ho hW => by
              obtain ⟨A2, c2, rfl, hr⟩ := Rws.of_own ho rfl
              have := settled_any A2 _ c2 _ W hr hlen
              rw [hR, hS.1, hZ] at this
              refine this.mono ?_
              rintro e w' ⟨hb', v, rfl, ho'⟩
              exact ⟨hb', v, rfl, own_base ho' hW⟩
            rw [hR, hZ] at hS
            have HS := Lib.hid hS
            have HZ := Lib.hid hZ
            clear hS hR hZ
            clear h1 h2 hE hpos hp hcn hlen hx hns hxm hl1 hc1
            go_wp2
            go_region_held3 (fun w' => w'.cell? ⟨w.heap.size, 0, none⟩ = some (.string p) ∧ w'.cell? ⟨w.heap.size, 1, none⟩ = some (.int .i64 f) ∧ w'.cell? ⟨w.heap.size, 3, none⟩ = some (.int .i64 b) ∧ w'.cell? ⟨w.heap.size, 5, none⟩ = some (.int .i64 m)) (go_keep)
              ((go_at_call 21; go_loud (with_reducible refine (RC.out _ HBd.out).mono ?_; rintro e w2 ⟨hb2, rfl⟩; have HB2 : Hid (Below w1.heap.size w1 w2) := Lib.hid (HBd.out.trans (hb2.mono ows)); have HX2 := Lib.hid (HXd.out.below hb2 olt); have HO2 := Lib.hid (own_step HOd.out hb2); obtain ⟨y0, y1, y2, y3, y4, y5⟩ := HX2.out.sixc; clear hb2)))
            all_goals
              go_wp2_with (first | (go_at_call 60; go_loud (with_reducible refine (P1.out _ _ HO2.out (by have := HB2.out.size; omega)).mono ?_; rintro e w3 ⟨hb3, v3, rfl, ho3⟩; have HO3 := Lib.hid ho3; have HB3 : Hid (Below w1.heap.size w1 w3) := Lib.hid (HB2.out.trans (hb3.mono HB2.out.size)); obtain ⟨x0, x1, x2, x3, x4, x5⟩ := (HX1.out.below HB3.out ox1).sixc; clear hb3 ho3)) | (go_at_call 60; go_loud (with_reducible refine (P2.out _ _ HO3.out (by have := HB3.out.size; omega)).mono ?_; rintro e w4 ⟨hb4, v4, rfl, ho4⟩; have HO4 := Lib.hid ho4; have HB4 : Hid (Below w1.heap.size w1 w4) := Lib.hid (HB3.out.trans (hb4.mono HB3.out.size)); obtain ⟨x0, x1, x2, x3, x4, x5⟩ := (HX1.out.below HB4.out ox1).sixc; clear hb4 ho4)) | (go_at_call 61; go_loud (with_reducible refine (ST.out _ _ HO4.out (by have := HB4.out.size; omega)).mono ?_; rintro e w9 ⟨hb9, v9, rfl, ho9⟩; have HO9 := Lib.hid ho9; have HB9 : Hid (Below w.heap.size w w9) := Lib.hid (HB1.out.trans ((HB4.out.trans (hb9.mono HB4.out.size)).mono ow1)); clear hb9 ho9)))
              go_ret2
              refine ⟨HB9.out, v9, R, ?_, ?_, own_base HO9.out ow1⟩
              · rw [HZ.out]; rfl
              · rw [HZ.out]; exact HS.out.2

end Go.Proofs.Ytmcefodfppdajaa
