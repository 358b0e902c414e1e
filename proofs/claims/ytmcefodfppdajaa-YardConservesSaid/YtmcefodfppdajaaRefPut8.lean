/- Chapter 8, walks: the reference's order of entries and Put. -/
import Derived.Test.YtmcefodfppdajaaEntr8
namespace Go.Proofs.Ytmcefodfppdajaa
open Go.RowKit Go.Deep

abbrev qV (x : Q4) : Value := .agg #[.string x.s, .int .i64 x.a, .int .i64 x.b, .int .i64 x.c]
set_option maxHeartbeats 2000000 in
theorem refBefore_any (x y : Q4) (w : World) : Calls Try.prog 87 #[.agg #[.string x.s, .int .i64 x.a, .int .i64 x.b, .int .i64 x.c], .agg #[.string y.s, .int .i64 y.a, .int .i64 y.b, .int .i64 y.c]] w fun e w' => Below w.heap.size w w' ∧ e = .returned (.bool (ltK (keyQ x) (keyQ y))) := by
  obtain ⟨xs, xa, xb, xc⟩ := x
  obtain ⟨ys, ya, yb, yc⟩ := y
  dsimp only
  obtain ⟨v1, h1⟩ : ∃ v, Op.bytesLess xs.toList ys.toList = v := ⟨_, rfl⟩
  obtain ⟨v2, h2⟩ : ∃ v, (xs.toList == ys.toList) = v := ⟨_, rfl⟩
  have HE : Hid (ltK (keyQ ⟨xs, xa, xb, xc⟩) (keyQ ⟨ys, ya, yb, yc⟩) = if v2 then (if xa = ya then decide (xb < yb) else decide (xa < ya)) else v1) := Lib.hid (by
    have q1 : ltS xs ys = v1 := h1
    have q2 : eqS xs ys = v2 := h2
    unfold ltK keyQ
    dsimp only
    rw [q1]
    cases v2
    · have := eqS_not.1 q2
      simp [this]
    · have := eqS_iff.1 q2
      subst this
      rw [ltS_irrefl] at q1
      subst q1
      by_cases h : xa = ya
      · subst h
        simp
      · simp [h])
  cases v2
  · go_enter Try.func87, Try.ntmps87
    go_wp2
    go_ret
    exact ⟨(by repeat (first | with_reducible exact Below.refl _ _ | with_reducible assumption | with_reducible refine Below.drew ?_ | with_reducible refine Below.drewN ?_ _ | with_reducible refine Below.alloc2 ?_ _ | with_reducible refine Below.alloc ?_ (by first | omega | (simp <;> omega)) _ | with_reducible refine Below.setCell ?_ (by first | omega | (simp <;> omega)) _ | with_reducible refine Below.step2 (by with_reducible assumption) ?_ | with_reducible refine Below.step (by with_reducible assumption) ?_ (by first | omega | (simp <;> omega)))), ret_bool HE.out.symm⟩
  · by_cases h3 : xa = ya
    · have hq : (xa != ya) = false := by simpa using h3
      have HE2 : Hid (ltK (keyQ ⟨xs, xa, xb, xc⟩) (keyQ ⟨ys, ya, yb, yc⟩) = decide (xb < yb)) := Lib.hid (by rw [HE.out, if_pos rfl, if_pos h3])
      clear h3 HE
      go_enter Try.func87, Try.ntmps87
      go_wp2
      go_ret
      exact ⟨(by repeat (first | with_reducible exact Below.refl _ _ | with_reducible assumption | with_reducible refine Below.drew ?_ | with_reducible refine Below.drewN ?_ _ | with_reducible refine Below.alloc2 ?_ _ | with_reducible refine Below.alloc ?_ (by first | omega | (simp <;> omega)) _ | with_reducible refine Below.setCell ?_ (by first | omega | (simp <;> omega)) _ | with_reducible refine Below.step2 (by with_reducible assumption) ?_ | with_reducible refine Below.step (by with_reducible assumption) ?_ (by first | omega | (simp <;> omega)))), ret_bool HE2.out.symm⟩
    · have hq : (xa != ya) = true := by simpa using h3
      have HE2 : Hid (ltK (keyQ ⟨xs, xa, xb, xc⟩) (keyQ ⟨ys, ya, yb, yc⟩) = decide (xa < ya)) := Lib.hid (by rw [HE.out, if_pos rfl, if_neg h3])
      clear h3 HE
      go_enter Try.func87, Try.ntmps87
      go_wp2
      go_ret
      exact ⟨(by repeat (first | with_reducible exact Below.refl _ _ | with_reducible assumption | with_reducible refine Below.drew ?_ | with_reducible refine Below.drewN ?_ _ | with_reducible refine Below.alloc2 ?_ _ | with_reducible refine Below.alloc ?_ (by first | omega | (simp <;> omega)) _ | with_reducible refine Below.setCell ?_ (by first | omega | (simp <;> omega)) _ | with_reducible refine Below.step2 (by with_reducible assumption) ?_ | with_reducible refine Below.step (by with_reducible assumption) ?_ (by first | omega | (simp <;> omega)))), ret_bool HE2.out.symm⟩
theorem Bk.quad {w : World} {g t : Nat} {a b c d : Value} (h : Bk w g t #[a, b, c, d]) : w.cell? ⟨g, 0, none⟩ = some a ∧ w.cell? ⟨g, 1, none⟩ = some b ∧ w.cell? ⟨g, 2, none⟩ = some c ∧ w.cell? ⟨g, 3, none⟩ = some d := ⟨h.cell 0, h.cell 1, h.cell 2, h.cell 3⟩
/-- How far Put is. -/
def PutI (x : Q4) (L : List Q4) (k : Nat) (d : Bool) (es : List Q4) : Prop := es ++ (if d then L.drop k else putL x (L.drop k)) = putL x L
theorem PutI.start (x : Q4) (L : List Q4) : PutI x L 0 false [] := by simp [PutI]
theorem PutI.done {x y : Q4} {L es : List Q4} {k : Nat} (h : PutI x L k true es) (hy : L[k]? = some y) : PutI x L (k + 1) true (es ++ [y]) := by
  unfold PutI at h ⊢
  rw [drop_step hy] at h
  simpa using h
theorem PutI.less {x y : Q4} {L es : List Q4} {k : Nat} (h : PutI x L k false es) (hy : L[k]? = some y) (hl : ltK (keyQ y) (keyQ x) = true) : PutI x L (k + 1) false (es ++ [y]) := by
  unfold PutI at h ⊢
  rw [drop_step hy, if_neg (by simp), putL, if_pos hl] at h
  simpa using h
theorem PutI.more {x y : Q4} {L es : List Q4} {k : Nat} (h : PutI x L k false es) (hy : L[k]? = some y) (hl : ltK (keyQ y) (keyQ x) = false) (hm : ltK (keyQ x) (keyQ y) = true) : PutI x L (k + 1) true ((es ++ [x]) ++ [y]) := by
  unfold PutI at h ⊢
  rw [drop_step hy, if_neg (by simp), putL, if_neg (by simp [hl]), if_pos hm] at h
  simpa using h
theorem PutI.same {x y : Q4} {L es : List Q4} {k : Nat} (h : PutI x L k false es) (hy : L[k]? = some y) (hl : ltK (keyQ y) (keyQ x) = false) (hm : ltK (keyQ x) (keyQ y) = false) : PutI x L (k + 1) true (es ++ [⟨x.s, x.a, x.b, x.c + y.c⟩]) := by
  unfold PutI at h ⊢
  rw [drop_step hy, if_neg (by simp), putL, if_neg (by simp [hl]), if_neg (by simp [hm])] at h
  simpa using h
theorem PutI.end_ {x : Q4} {L es : List Q4} {k : Nat} {d : Bool} (h : PutI x L k d es) (hk : L.length ≤ k) : (if d then es else es ++ [x]) = putL x L := by
  unfold PutI at h
  rw [List.drop_eq_nil_of_le hk] at h
  cases d
  · simpa [putL] using h
  · simpa using h

theorem Bk.cast {w : World} {g t : Nat} {cs cs' : Array Value} (h : Bk w g t cs) (e : cs = cs') : Bk w g t cs' := e ▸ h
theorem grown_setd (w : World) (b i : Nat) (v : Value) : w.grownBy ((w.setCell ⟨b, i, none⟩ v).drew) (some b) :=
  ⟨rfl, rfl, rfl, by show w.heap.size ≤ (w.setCell _ v).heap.size; simp [World.setCell], fun k _ hk => Below.heap_setCell w _ _ _ (fun e => hk (by simp [e]))⟩
theorem Bk.fz {w : World} {g t : Nat} {a b c d : Value} (h : Bk w g t #[a, b, c, d]) : w.frozen? ⟨g, 2, none⟩ = false ∧ w.frozen? ⟨g, 3, none⟩ = false := ⟨h.frozen 2, h.frozen 3⟩
theorem Rws.q4x {w : World} {B n c k b o : Nat} {l : List Q4} {x : Q4} (h : Rws Q4.cs 4 w B (some ⟨b, o, none⟩) n c l) (hx : l[k]? = some x) : w.cell? ⟨b, o + k * 4, none⟩ = some (.string x.s) ∧ w.cell? ⟨b, o + k * 4 + 1, none⟩ = some (.int .i64 x.a) ∧ w.cell? ⟨b, o + k * 4 + 2, none⟩ = some (.int .i64 x.b) ∧ w.cell? ⟨b, o + k * 4 + 3, none⟩ = some (.int .i64 x.c) := by
  have hk : k < n := by rw [← h.len]; exact (List.getElem?_eq_some_iff.1 hx).1
  obtain ⟨b', o', x', e, -, hx', h1⟩ := h.q4 hk
  rw [hx] at hx'
  cases hx'
  cases e
  exact h1
set_option maxRecDepth 100000 in
set_option maxHeartbeats 16000000 in
theorem refPut_any (A : Option Addr) (n ca : Nat) (L : List Q4) (xs : ByteArray) (xa xb xc : Int) (w : World) (h : Rws Q4.cs 4 w w.heap.size A n ca L) (hn : n ≤ 10000) (hx : -1000000000000 ≤ xc ∧ xc ≤ 1000000000000) (hL : ∀ y ∈ L, -1000000000000 ≤ y.c ∧ y.c ≤ 1000000000000) :
    Calls Try.prog 60 #[.slice A n ca, .agg #[.string xs, .int .i64 xa, .int .i64 xb, .int .i64 xc]] w fun e w' => Below w.heap.size w w' ∧ ∃ v, e = .returned v ∧ w'.ownsRow w.heap.size 103 4 v (putL ⟨xs, xa, xb, xc⟩ L).length ((putL ⟨xs, xa, xb, xc⟩ L).flatMap Q4.cs) := by
  have hcap := h.cap
  have hmax := h.max
  have HLEN := Lib.hid h.len
  have HLL := Lib.hid hL
  have HX := Lib.hid hx
  have H : Hid (∀ w', Below w.heap.size w w' → Rws Q4.cs 4 w' w.heap.size A n ca L) := Lib.hid fun w' hb => h.below hb (Nat.le_refl _) (Nat.le_refl _)
  clear h hL hx
  go_enter Try.func60, Try.ntmps60
  go_wp2
  go_loopw [5, 6, 7] (fun v d i wr => ∃ (k : Nat) (db : Bool) (es : List Q4) (xc' : Int), k ≤ n ∧ i = .int .i64 k ∧ d = .bool db ∧ Hid (PutI ⟨xs, xa, xb, xc⟩ L k db es) ∧ Hid (wr.ownsRow (w.heap.size + 1) 103 4 v es.length (es.flatMap Q4.cs)) ∧ Hid (Bk wr w.heap.size 103 #[.string xs, .int .i64 xa, .int .i64 xb, .int .i64 xc'] ∧ (db = false → xc' = xc)) ∧ es.length ≤ k + (if db then 1 else 0) ∧ Hid (Below w.heap.size w wr)) (fun _ _ i _ => n - (intOf i).toNat)
  case atStart => exact ⟨0, false, [], xc, Nat.zero_le _, rfl, rfl, Lib.hid (PutI.start _ _), Lib.hid (World.ownsRow_nil _ _ _ _), Lib.hid ⟨Bk.at_ rfl, fun _ => rfl⟩, by simp, Lib.hid (by repeat (first | with_reducible exact Below.refl _ _ | with_reducible assumption | with_reducible refine Below.drew ?_ | with_reducible refine Below.drewN ?_ _ | with_reducible refine Below.alloc2 ?_ _ | with_reducible refine Below.alloc ?_ (by first | omega | (simp <;> omega)) _ | with_reducible refine Below.setCell ?_ (by first | omega | (simp <;> omega)) _ | with_reducible refine Below.step2 (by with_reducible assumption) ?_ | with_reducible refine Below.step (by with_reducible assumption) ?_ (by first | omega | (simp <;> omega))))⟩
  case round =>
    obtain ⟨k, db, es, xc', hk, rfl, rfl, HI, HO, HXB, hes, HB⟩ := hrel
    have ow := HB.out.size
    have oxw := HXB.out.1.lt
    by_cases hlt : k < n
    · obtain ⟨b, o, ⟨ys, ya, yb, yc⟩, rfl, hbb, hy, c0, c1, c2, c3⟩ := (H.out _ HB.out).q4 hlt
      dsimp only at c0 c1 c2 c3
      have HY := Lib.hid hy
      have hyb := HLL.out _ (List.mem_of_getElem? hy)
      dsimp only at hyb
      have ob : b < wr.heap.size := by omega
      clear hy
      have hes1 : es.length ≤ k + 1 := by split at hes <;> omega
      cases db
      rotate_left
      · obtain ⟨x0, x1, x2, x3⟩ := HXB.out.1.quad
        go_wp2
        go_quiet (fail)
        have hb1 : Below wr.heap.size wr (wr.drewN nq) := Below.drewN (Below.refl _ _) _
        generalize wr.drewN nq = W1 at hb1 ⊢
        have HB1 : Hid (Below w.heap.size w W1) := Lib.hid (HB.out.trans (hb1.mono ow))
        have HO1 := Lib.hid (own_step HO.out hb1)
        have HX1 := Lib.hid (HXB.out.1.below hb1 oxw)
        obtain ⟨d0, d1, d2, d3⟩ := (H.out _ HB1.out).q4x HY.out
        obtain ⟨e0, e1, e2, e3⟩ := HX1.out.quad
        have ow1 := hb1.size
        have ow2 := HB1.out.size
        have oxw1 := HX1.out.lt
        have ob1 : b < W1.heap.size := by omega
        clear hb1
        go_wp2_with (at_builtin; go_loud (refine app_st (W := es) (HO1.out.alloc _) rfl _ _ rfl rfl ⟨ys, ya, yb, yc⟩ _ rfl (Bk.at_ rfl) (by omega) (by simp; omega) ?_; intro v5 w5 ho5 hg5; have HO5 := Lib.hid ho5; have HG5 := Lib.hid hg5; clear ho5 hg5))
        go_roundw
        case rel =>
          refine ⟨k + 1, true, es ++ [⟨ys, ya, yb, yc⟩], xc', by omega, by go_num, rfl, Lib.hid (HI.out.done HY.out), HO5, Lib.hid ⟨?_, fun h => by cases h⟩, (by simp; omega), Lib.hid ?_⟩
          · exact (HG5.out.block _ (by simp; omega) (by exact own_ne HO1.out (Nat.lt_succ_self _))).trans (HX1.out.alloc _)
          · exact Below.grown_ (HB1.out.alloc HB1.out.size _) HG5.out (by simp; omega) (fun q hq => by have := (HO1.out.lt q hq).1; omega)
        case measure => simp [intOf]; omega
      · obtain rfl : xc' = xc := HXB.out.2 rfl
        have hes2 : es.length ≤ k := by simpa using hes
        obtain ⟨x0, x1, x2, x3⟩ := HXB.out.1.quad
        obtain ⟨v1, hv1⟩ : ∃ v, ltK (keyQ ⟨ys, ya, yb, yc⟩) (keyQ ⟨xs, xa, xb, xc'⟩) = v := ⟨_, rfl⟩
        obtain ⟨v2, hv2⟩ : ∃ v, ltK (keyQ ⟨xs, xa, xb, xc'⟩) (keyQ ⟨ys, ya, yb, yc⟩) = v := ⟨_, rfl⟩
        have B1 : Hid (∀ W, Calls Try.prog 87 #[.agg #[.string ys, .int .i64 ya, .int .i64 yb, .int .i64 yc], .agg #[.string xs, .int .i64 xa, .int .i64 xb, .int .i64 xc']] W fun e w' => Below W.heap.size W w' ∧ e = .returned (.bool v1)) := Lib.hid fun W => by have := refBefore_any ⟨ys, ya, yb, yc⟩ ⟨xs, xa, xb, xc'⟩ W; rwa [hv1] at this
        have B2 : Hid (∀ W, Calls Try.prog 87 #[.agg #[.string xs, .int .i64 xa, .int .i64 xb, .int .i64 xc'], .agg #[.string ys, .int .i64 ya, .int .i64 yb, .int .i64 yc]] W fun e w' => Below W.heap.size W w' ∧ e = .returned (.bool v2)) := Lib.hid fun W => by have := refBefore_any ⟨xs, xa, xb, xc'⟩ ⟨ys, ya, yb, yc⟩ W; rwa [hv2] at this
        have HV1 := Lib.hid hv1
        have HV2 := Lib.hid hv2
        have HD0 : Hid (Below wr.heap.size wr wr.drew) := Lib.hid ((Below.refl _ _).drew)
        have hsz : wr.heap.size ≤ wr.drew.heap.size := Nat.le_refl _
        clear hv1 hv2
        cases v1
        rotate_left
        · go_wp2
          go_region_held3 (fun w' => (w'.cell? ⟨b, o + k * 4, none⟩ = some (.string ys) ∧ w'.cell? ⟨b, o + k * 4 + 1, none⟩ = some (.int .i64 ya) ∧ w'.cell? ⟨b, o + k * 4 + 2, none⟩ = some (.int .i64 yb) ∧ w'.cell? ⟨b, o + k * 4 + 3, none⟩ = some (.int .i64 yc)) ∧ (w'.cell? ⟨w.heap.size, 0, none⟩ = some (.string xs) ∧ w'.cell? ⟨w.heap.size, 1, none⟩ = some (.int .i64 xa) ∧ w'.cell? ⟨w.heap.size, 2, none⟩ = some (.int .i64 xb) ∧ w'.cell? ⟨w.heap.size, 3, none⟩ = some (.int .i64 xc'))) (go_keep) ((go_at_call 87; go_loud (with_reducible refine (B1.out _).mono ?_; rintro e W1 ⟨hb1, rfl⟩; have hb2 : Below wr.heap.size wr W1 := HD0.out.trans (hb1.mono hsz); obtain ⟨d0, d1, d2, d3⟩ := (H.out _ (HB.out.trans (hb2.mono ow))).q4x HY.out; obtain ⟨e0, e1, e2, e3⟩ := (HXB.out.1.below hb2 oxw).quad; have HBW := Lib.hid hb2; clear hb1 hb2)))
          have hb1 := HBW.out
          have HB1 : Hid (Below w.heap.size w W1) := Lib.hid (HB.out.trans (hb1.mono ow))
          have HO1 := Lib.hid (own_step HO.out hb1)
          have HX1 := Lib.hid (HXB.out.1.below hb1 oxw)
          obtain ⟨d0, d1, d2, d3⟩ := (H.out _ HB1.out).q4x HY.out
          obtain ⟨e0, e1, e2, e3⟩ := HX1.out.quad
          have ow1 := hb1.size
          have ow2 := HB1.out.size
          have oxw1 := HX1.out.lt
          have ob1 : b < W1.heap.size := by omega
          clear hb1
          go_wp2_with (at_builtin; go_loud (refine app_st (W := es) (HO1.out.alloc _) rfl _ _ rfl rfl ⟨ys, ya, yb, yc⟩ _ rfl (Bk.at_ rfl) (by omega) (by simp; omega) ?_; intro v5 w5 ho5 hg5; have HO5 := Lib.hid ho5; have HG5 := Lib.hid hg5; clear ho5 hg5))
          go_roundw
          case rel =>
            refine ⟨k + 1, false, es ++ [⟨ys, ya, yb, yc⟩], xc', by omega, by go_num, rfl, Lib.hid (HI.out.less HY.out HV1.out), HO5, Lib.hid ⟨?_, fun _ => rfl⟩, (by simp; omega), Lib.hid ?_⟩
            · exact (HG5.out.block _ (by simp; omega) (by exact own_ne HO1.out (Nat.lt_succ_self _))).trans (HX1.out.alloc _)
            · exact Below.grown_ (HB1.out.alloc HB1.out.size _) HG5.out (by simp; omega) (fun q hq => by have := (HO1.out.lt q hq).1; omega)
          case measure => simp [intOf]; omega
        · go_wp2
          go_region_held3 (fun w' => (w'.cell? ⟨b, o + k * 4, none⟩ = some (.string ys) ∧ w'.cell? ⟨b, o + k * 4 + 1, none⟩ = some (.int .i64 ya) ∧ w'.cell? ⟨b, o + k * 4 + 2, none⟩ = some (.int .i64 yb) ∧ w'.cell? ⟨b, o + k * 4 + 3, none⟩ = some (.int .i64 yc)) ∧ (w'.cell? ⟨w.heap.size, 0, none⟩ = some (.string xs) ∧ w'.cell? ⟨w.heap.size, 1, none⟩ = some (.int .i64 xa) ∧ w'.cell? ⟨w.heap.size, 2, none⟩ = some (.int .i64 xb) ∧ w'.cell? ⟨w.heap.size, 3, none⟩ = some (.int .i64 xc'))) (go_keep) ((go_at_call 87; go_loud (with_reducible refine (B1.out _).mono ?_; rintro e W1 ⟨hb1, rfl⟩; have hb2 : Below wr.heap.size wr W1 := HD0.out.trans (hb1.mono hsz); obtain ⟨d0, d1, d2, d3⟩ := (H.out _ (HB.out.trans (hb2.mono ow))).q4x HY.out; obtain ⟨e0, e1, e2, e3⟩ := (HXB.out.1.below hb2 oxw).quad; have HBW := Lib.hid hb2; clear hb1 hb2)))
          have hb1 := HBW.out
          have HB1 : Hid (Below w.heap.size w W1) := Lib.hid (HB.out.trans (hb1.mono ow))
          have HO1 := Lib.hid (own_step HO.out hb1)
          have HX1 := Lib.hid (HXB.out.1.below hb1 oxw)
          obtain ⟨d0, d1, d2, d3⟩ := (H.out _ HB1.out).q4x HY.out
          obtain ⟨e0, e1, e2, e3⟩ := HX1.out.quad
          have ow1 := hb1.size
          have ow2 := HB1.out.size
          have oxw1 := HX1.out.lt
          have ob1 : b < W1.heap.size := by omega
          clear hb1
          have HE0 : Hid (Below W1.heap.size W1 W1.drew) := Lib.hid ((Below.refl _ _).drew)
          have hsz1 : W1.heap.size ≤ W1.drew.heap.size := Nat.le_refl _
          go_wp2
          cases v2
          · go_region_held3 (fun w' => (w'.cell? ⟨b, o + k * 4, none⟩ = some (.string ys) ∧ w'.cell? ⟨b, o + k * 4 + 1, none⟩ = some (.int .i64 ya) ∧ w'.cell? ⟨b, o + k * 4 + 2, none⟩ = some (.int .i64 yb) ∧ w'.cell? ⟨b, o + k * 4 + 3, none⟩ = some (.int .i64 yc)) ∧ (w'.cell? ⟨w.heap.size, 0, none⟩ = some (.string xs) ∧ w'.cell? ⟨w.heap.size, 1, none⟩ = some (.int .i64 xa) ∧ w'.cell? ⟨w.heap.size, 2, none⟩ = some (.int .i64 xb) ∧ w'.cell? ⟨w.heap.size, 3, none⟩ = some (.int .i64 xc'))) (go_keep) ((go_at_call 87; go_loud (with_reducible refine (B2.out _).mono ?_; rintro e W2 ⟨hb1, rfl⟩; have hb2 : Below W1.heap.size W1 W2 := HE0.out.trans (hb1.mono hsz1); obtain ⟨f0, f1, f2, f3⟩ := (H.out _ (HB1.out.trans (hb2.mono ow2))).q4x HY.out; obtain ⟨g0, g1, g2, g3⟩ := (HX1.out.below hb2 oxw1).quad; have HBV := Lib.hid hb2; clear hb1 hb2)))
            have hw1 : IntKind.i64.wrap (xc' + yc) = xc' + yc := IntWalk.i64_in _ (by have := HX.out; omega)
            have HK2 := Lib.hid (HX1.out.below HBV.out oxw1)
            have HO2 := Lib.hid (own_step HO1.out HBV.out)
            have HB2 : Hid (Below w.heap.size w W2) := Lib.hid (HB1.out.trans (HBV.out.mono ow2))
            have ow3 := HB2.out.size
            obtain ⟨-, fz⟩ := HK2.out.fz
            go_wp2
            go_region
            have kb3 : Bk ((W2.setCell ⟨w.heap.size, 3, none⟩ (Value.int .i64 (xc' + yc))).drew) w.heap.size 103 #[.string xs, .int .i64 xa, .int .i64 xb, .int .i64 (xc' + yc)] := Bk.drew (Bk.cast (HK2.out.set_ 3 (Value.int .i64 (xc' + yc))) (by simp))
            have hg3 : W2.grownBy ((W2.setCell ⟨w.heap.size, 3, none⟩ (Value.int .i64 (xc' + yc))).drew) (some w.heap.size) := grown_setd W2 _ _ _
            have ho3 := HO2.out.kept hg3 (.inr (own_ne HO2.out (Nat.lt_succ_self _)).symm)
            have hb3 : Below w.heap.size w ((W2.setCell ⟨w.heap.size, 3, none⟩ (Value.int .i64 (xc' + yc))).drew) := Below.grown_ HB2.out hg3 ow3 (fun q hq => by cases hq; omega)
            generalize (W2.setCell ⟨w.heap.size, 3, none⟩ (Value.int .i64 (xc' + yc))).drew = W3 at kb3 ho3 hb3 ⊢
            clear hg3
            have HO3 := Lib.hid ho3
            have HB3 := Lib.hid hb3
            have HK3 := Lib.hid kb3
            obtain ⟨r0, r1, r2, r3⟩ := kb3.quad
            have ow4 := hb3.size
            have oxw3 := kb3.lt
            clear kb3 ho3 hb3
            go_wp2_with (at_builtin; go_loud (refine app_st (W := es) (HO3.out.alloc _) rfl _ _ rfl rfl ⟨xs, xa, xb, xc' + yc⟩ _ rfl (Bk.at_ rfl) (by omega) (by simp; omega) ?_; intro v5 w5 ho5 hg5; have HO5 := Lib.hid ho5; have HG5 := Lib.hid hg5; clear ho5 hg5))
            go_roundw
            case rel =>
              refine ⟨k + 1, true, es ++ [⟨xs, xa, xb, xc' + yc⟩], xc' + yc, by omega, by go_num, rfl, Lib.hid (HI.out.same HY.out HV1.out HV2.out), HO5, Lib.hid ⟨?_, fun h => by cases h⟩, (by simp; omega), Lib.hid ?_⟩
              · exact (HG5.out.block _ (by simp; omega) (by exact own_ne HO3.out (Nat.lt_succ_self _))).trans (HK3.out.alloc _)
              · exact Below.grown_ (HB3.out.alloc HB3.out.size _) HG5.out (by simp; omega) (fun q hq => by have := (HO3.out.lt q hq).1; omega)
            case measure => simp [intOf]; omega
          · go_region_held3 (fun w' => (w'.cell? ⟨b, o + k * 4, none⟩ = some (.string ys) ∧ w'.cell? ⟨b, o + k * 4 + 1, none⟩ = some (.int .i64 ya) ∧ w'.cell? ⟨b, o + k * 4 + 2, none⟩ = some (.int .i64 yb) ∧ w'.cell? ⟨b, o + k * 4 + 3, none⟩ = some (.int .i64 yc)) ∧ (w'.cell? ⟨w.heap.size, 0, none⟩ = some (.string xs) ∧ w'.cell? ⟨w.heap.size, 1, none⟩ = some (.int .i64 xa) ∧ w'.cell? ⟨w.heap.size, 2, none⟩ = some (.int .i64 xb) ∧ w'.cell? ⟨w.heap.size, 3, none⟩ = some (.int .i64 xc'))) (go_keep) ((go_at_call 87; go_loud (with_reducible refine (B2.out _).mono ?_; rintro e W2 ⟨hb1, rfl⟩; have hb2 : Below W1.heap.size W1 W2 := HE0.out.trans (hb1.mono hsz1); obtain ⟨f0, f1, f2, f3⟩ := (H.out _ (HB1.out.trans (hb2.mono ow2))).q4x HY.out; obtain ⟨g0, g1, g2, g3⟩ := (HX1.out.below hb2 oxw1).quad; have HBV := Lib.hid hb2; clear hb1 hb2)))
            have HK2 := Lib.hid (HX1.out.below HBV.out oxw1)
            have HO2 := Lib.hid (own_step HO1.out HBV.out)
            have HB2 : Hid (Below w.heap.size w W2) := Lib.hid (HB1.out.trans (HBV.out.mono ow2))
            have ow3 := HB2.out.size
            have oxw2 := HK2.out.lt
            have ob2 : b < W2.heap.size := by omega
            go_wp2_with (first
              | (at_builtin; refine app_st (W := es ++ [⟨xs, xa, xb, xc'⟩]) (HO5.out.alloc _) rfl _ _ rfl rfl ⟨ys, ya, yb, yc⟩ _ rfl (Bk.at_ rfl) (by simp; omega) (by simp; omega) ?_; intro v6 w6 ho6 hg6; have HO6 := Lib.hid ho6; have HG6 := Lib.hid hg6; clear ho6 hg6)
              | (at_builtin; refine app_st (W := es) (HO2.out.alloc _) rfl _ _ rfl rfl ⟨xs, xa, xb, xc'⟩ _ rfl (Bk.at_ rfl) (by omega) (by simp; omega) ?_; intro v5 w5 ho5 hg5; have HO5 := Lib.hid ho5; have HB5 : Hid (Below w.heap.size w w5) := Lib.hid (Below.grown_ (HB2.out.alloc HB2.out.size _) hg5 (by simp; omega) (fun q hq => by have := (HO2.out.lt q hq).1; omega)); have HK5 : Hid (Bk w5 w.heap.size 103 #[.string xs, .int .i64 xa, .int .i64 xb, .int .i64 xc']) := Lib.hid ((hg5.block _ (by simp; omega) (own_ne HO2.out (Nat.lt_succ_self _))).trans (HK2.out.alloc _)); obtain ⟨t0, t1, t2, t3⟩ := (H.out _ HB5.out).q4x HY.out; have ow5 := HB5.out.size; have oxw5 := HK5.out.lt; clear ho5 hg5))
            go_roundw
            case rel =>
              refine ⟨k + 1, true, (es ++ [⟨xs, xa, xb, xc'⟩]) ++ [⟨ys, ya, yb, yc⟩], xc', by omega, by go_num, rfl, Lib.hid (HI.out.more HY.out HV1.out HV2.out), HO6, Lib.hid ⟨?_, fun h => by cases h⟩, (by simp; omega), Lib.hid ?_⟩
              · exact (HG6.out.block _ (by simp; omega) (by exact own_ne HO5.out (Nat.lt_succ_self _))).trans (HK5.out.alloc _)
              · exact Below.grown_ (HB5.out.alloc HB5.out.size _) HG6.out (by simp; omega) (fun q hq => by have := (HO5.out.lt q hq).1; omega)
            case measure => simp [intOf]; omega
    · obtain ⟨x0, x1, x2, x3⟩ := HXB.out.1.quad
      have hkl : L.length ≤ k := by rw [HLEN.out]; omega
      have hes1 : es.length ≤ k + 1 := by split at hes <;> omega
      cases db
      · obtain rfl : xc' = xc := HXB.out.2 rfl
        go_wp2_with (at_builtin; go_loud (refine app_st (W := es) (HO.out.alloc _) rfl _ _ rfl rfl ⟨xs, xa, xb, xc'⟩ _ rfl (Bk.at_ rfl) (by omega) (by simp; omega) ?_; intro v5 w5 ho5 hg5; have HO5 := Lib.hid ho5; have HB5 : Hid (Below w.heap.size w w5) := Lib.hid (Below.grown_ (HB.out.alloc HB.out.size _) hg5 (by simp; omega) (fun q hq => by have := (HO.out.lt q hq).1; omega)); clear ho5 hg5))
        go_ret
        have he := HI.out.end_ hkl
        rw [if_neg (by simp)] at he
        refine ⟨HB5.out, _, rfl, ?_⟩
        rw [← he]
        exact own_base HO5.out (by omega)
      · go_wp2
        go_ret
        have he := HI.out.end_ hkl
        rw [if_pos rfl] at he
        refine ⟨HB.out, _, rfl, ?_⟩
        rw [← he]
        exact own_base HO.out (by omega)

end Go.Proofs.Ytmcefodfppdajaa
