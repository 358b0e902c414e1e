/- Chapter 9, walks: opened of the reference (all defects). -/
import Derived.Test.YtgjjjnofdjhikaaRecSpec9
import Derived.Deep.DeepCutAuto
namespace Go.Proofs.Ytgjjjnofdjhikaa
open Go.RowKit

/-- The numbers of the open defects of a platform. -/
def isD (p : ByteArray) (x : Ev) : Bool := decide (x.k = 4) && eqS x.p p
def olist : List Ev → ByteArray → List Int
  | [], _ => []
  | x :: r, p => if isD p x && !repIn r p x.n then x.n :: olist r p else olist r p
theorem olist_has : ∀ (l : List Ev) (p : ByteArray) (n : Int), (olist l p).contains n = hasOp l p n
  | [], p, n => rfl
  | x :: r, p, n => by
    have ih := olist_has r p n
    simp only [olist, hasOp]
    by_cases hd : isD p x = true
    · have hd2 := hd
      unfold isD at hd2
      simp only [Bool.and_eq_true] at hd2
      by_cases hx : x.n = n
      · subst hx
        have e : isOp p x.n x = true := by simp [isOp, hd2.1, hd2.2]
        cases hr : repIn r p x.n
        · simp [hd, e]
        · simp only [hd, Bool.not_true, Bool.and_false, Bool.false_eq_true, if_false, Bool.false_or]
          exact ih
      · have e : isOp p n x = false := by simp [isOp, hx]
        have hx2 : (n == x.n) = false := by simpa using Ne.symm hx
        cases hr : repIn r p x.n
        · simp only [hd, Bool.not_false, Bool.and_self, if_true, List.contains_cons, hx2, e, Bool.false_and, Bool.false_or]
          exact ih
        · simp only [hd, Bool.not_true, Bool.and_false, Bool.false_eq_true, if_false, e, Bool.false_and, Bool.false_or]
          exact ih
    · have hd1 : isD p x = false := by simpa using hd
      have e : isOp p n x = false := by
        unfold isD at hd1
        unfold isOp
        cases h4 : decide (x.k = 4)
        · rfl
        · rw [h4] at hd1
          simp only [Bool.true_and] at hd1
          simp [hd1]
      simp only [hd1, e, Bool.false_and, Bool.false_eq_true, if_false, Bool.false_or]
      exact ih
theorem olist_len : ∀ (l : List Ev) (p : ByteArray), (olist l p).length ≤ l.length
  | [], _ => Nat.le_refl _
  | x :: r, p => by
    have := olist_len r p
    simp only [olist]
    split <;> simp <;> omega
/-- The numbers told by the first events, as the rest of the record is. -/
def oTo (l : List Ev) (p : ByteArray) : Nat → List Int
  | 0 => []
  | k + 1 => oTo l p k ++ (match l[k]? with | some x => if isD p x && !repIn (l.drop (k + 1)) p x.n then [x.n] else [] | none => [])
theorem oTo_drop (l : List Ev) (p : ByteArray) : ∀ k, k ≤ l.length → oTo l p k ++ olist (l.drop k) p = olist l p
  | 0, _ => by simp [oTo]
  | k + 1, hk => by
    have ih := oTo_drop l p k (by omega)
    have hx : l[k]? = some (l[k]'(by omega)) := List.getElem?_eq_getElem (by omega)
    rw [← ih, drop_step hx]
    simp only [oTo, hx, olist, List.append_assoc]
    congr 1
    split <;> rfl
theorem oTo_all (l : List Ev) (p : ByteArray) : oTo l p l.length = olist l p := by
  have := oTo_drop l p l.length (Nat.le_refl _)
  simpa [olist] using this
theorem oTo_len (l : List Ev) (p : ByteArray) (k : Nat) (hk : k ≤ l.length) : (oTo l p k).length ≤ l.length := by
  have h := congrArg List.length (oTo_drop l p k hk)
  rw [List.length_append] at h
  have := olist_len l p
  omega
theorem repIn_step {l : List Ev} {k : Nat} {y : Ev} (hy : l[k]? = some y) (p : ByteArray) (n : Int) : repIn (l.drop k) p n = (isRe p n y || repIn (l.drop (k + 1)) p n) := by
  rw [drop_step hy]
  simp [repIn]
theorem info_int9 : (Try.prog.info? 3).map (fun i => (i.zero.map (·.cells.size), i.size, i.bytes)) = some (some 1, 1, 8) := by kernel_rfl
set_option maxRecDepth 100000 in
set_option maxHeartbeats 16000000 in
theorem opened_any (A : Option Addr) (n c : Nat) (l : List Ev) (p : ByteArray) (w : World) (h : Rws Ev.cs 6 w w.heap.size A n c l) (hn : n ≤ 500) :
    Calls Try.prog 41 #[.slice A n c, .string p, .bool false, .bool true] w fun e w' => Below w.heap.size w w' ∧ ∃ A' m c', e = .returned (.slice A' m c') ∧ Nums w' w'.heap.size A' m c' (olist l p) := by
  have hcap := h.cap
  have hmax := h.max
  have HLEN := Lib.hid h.len
  have H : Hid (∀ w', Below w.heap.size w w' → Rws Ev.cs 6 w' w.heap.size A n c l) := fun w' hb => h.below hb (Nat.le_refl _) (Nat.le_refl _)
  obtain ⟨i0, z, hi0, hz0, hzs, hz1, hz2⟩ := info_cells info_int9
  have HI0 := Lib.hid hi0
  have HZ0 := Lib.hid hz0
  have HZ1 := Lib.hid hz1
  have HZ2 := Lib.hid hz2
  have HZS := Lib.hid hzs
  clear h hi0 hz0 hz1 hz2 hzs
  go_enter Try.func41, Try.ntmps41
  go_wp2
  go_loopw [9, 10, 11, 12] (fun v i _ _ wr => ∃ k : Nat, k ≤ n ∧ i = .int .i64 k ∧ (∃ m os, Hid (oTo l p k = os) ∧ wr.ownsRow w.heap.size 3 1 v m (i64s os)) ∧ Below w.heap.size w wr) (fun _ i _ _ _ => n - (intOf i).toNat)
  case atStart => exact ⟨0, Nat.zero_le _, rfl, ⟨0, [], Lib.hid rfl, World.ownsRow_nil _ _ _ _⟩, (by repeat (first | with_reducible exact Below.refl _ _ | with_reducible assumption | with_reducible refine Below.drew ?_ | with_reducible refine Below.drewN ?_ _ | with_reducible refine Below.alloc2 ?_ _ | with_reducible refine Below.alloc ?_ (by first | omega | (simp <;> omega)) _ | with_reducible refine Below.setCell ?_ (by first | omega | (simp <;> omega)) _ | with_reducible refine Below.step2 (by with_reducible assumption) ?_ | with_reducible refine Below.step (by with_reducible assumption) ?_ (by first | omega | (simp <;> omega))))⟩
  case round =>
    obtain ⟨k, hk, rfl, ⟨m, os, HP, hown⟩, hb⟩ := hrel
    have HB := Lib.hid hb
    have HOWN := Lib.hid hown
    have ow := hb.size
    have hm : m ≤ 500 := by
      have h1 := hown.1
      rw [i64s_length, ← HP.out] at h1
      have h2 := oTo_len l p k (by rw [HLEN.out]; exact hk)
      rw [HLEN.out] at h2
      omega
    clear hown
    by_cases hlt : k < n
    · obtain ⟨b, o, ⟨xd, xk, xp, xn, xs, xg⟩, rfl, hbb, hx, c0, c1, c2, c3, c4, c5⟩ := (H.out _ hb).ev hlt
      dsimp only at c0 c1 c2 c3 c4 c5
      have HX := Lib.hid hx
      have ob : b < wr.heap.size := by omega
      have HNO : Hid (isD p ⟨xd, xk, xp, xn, xs, xg⟩ = false → oTo l p (k + 1) = os) := Lib.hid fun h => by
        simp only [oTo, hx, h, Bool.false_and, Bool.false_eq_true, if_false, HP.out, List.append_nil]
      have HYES : Hid (isD p ⟨xd, xk, xp, xn, xs, xg⟩ = true → ∀ R, (!repIn (l.drop (k + 1)) p xn) = R → oTo l p (k + 1) = if R then os ++ [xn] else os) := Lib.hid fun h R hR => by
        simp only [oTo, hx, h, Bool.true_and, HP.out]
        rw [hR]
        cases R <;> simp
      clear hx hb
      by_cases h4 : xk = 4
      rotate_left
      · have h4b : (xk != 4) = true := by simpa using h4
        have HN2 := Lib.hid (HNO.out (by simp [isD, h4]))
        clear h4
        go_wp2
        go_roundw
        case rel => exact ⟨k + 1, by omega, by go_num, ⟨m, os, HN2, HOWN.out⟩, HB.out⟩
        case measure => simp [intOf]; omega
      have h4b : (xk != 4) = false := by simpa using h4
      obtain ⟨v, hv⟩ : ∃ v, (xp.toList == p.toList) = v := ⟨_, rfl⟩
      have hvd : isD p ⟨xd, xk, xp, xn, xs, xg⟩ = v := by rw [← hv]; simp [isD, h4, eqS]
      have HVD := Lib.hid hvd
      clear h4 hvd
      cases v
      · have HN2 := Lib.hid (HNO.out HVD.out)
        go_wp2
        go_roundw
        case rel => exact ⟨k + 1, by omega, by go_num, ⟨m, os, HN2, HOWN.out⟩, HB.out⟩
        case measure => simp [intOf]; omega
      · obtain ⟨R, hR⟩ : ∃ R, (!repIn (l.drop (k + 1)) p xn) = R := ⟨_, rfl⟩
        have HRR := Lib.hid hR
        have HY2 := Lib.hid (HYES.out HVD.out R hR)
        clear hR
        obtain ⟨wo, rfl⟩ : ∃ x, x = wr := ⟨_, rfl⟩
        go_wp2
        go_loopw [11, 12] (fun bb q wq => ∃ j : Nat, j ≤ n ∧ q = .int .i64 j ∧ (∃ bv : Bool, bb = .bool bv ∧ Hid ((bv && !repIn (l.drop j) p xn) = R)) ∧ Below wo.heap.size wo wq) (fun _ q _ => n - (intOf q).toNat)
        case atStart => exact ⟨k + 1, by omega, by go_num, ⟨true, rfl, Lib.hid (by simpa using HRR.out)⟩, Below.refl _ _⟩
        case round =>
          obtain ⟨wq, rfl⟩ : ∃ x, x = wr := ⟨_, rfl⟩
          obtain ⟨j, hj, rfl, ⟨bv, rfl, HBV⟩, hb2⟩ := hrel
          have HB2 := Lib.hid (HB.out.trans (hb2.mono HB.out.size))
          have ow2 := hb2.size
          have HOWN2 := Lib.hid (own_step HOWN.out hb2)
          have HBQ := Lib.hid hb2
          by_cases hlt2 : j < n
          · obtain ⟨b', o', ⟨yd, yk, yp, yn, ys, yg⟩, e, hbb', hy, d0, d1, d2, d3, d4, d5⟩ := (H.out _ HB2.out).ev hlt2
            obtain ⟨rfl, rfl⟩ : b = b' ∧ o = o' := by simpa using e
            dsimp only at d0 d1 d2 d3 d4 d5
            have hc3 : wq.cell? ⟨b, o + k * 6 + 3, none⟩ = some (.int .i64 xn) := ((bcell hb2).1 _ _ ob).trans c3
            have hst := repIn_step hy p xn
            have ob2 : b < wq.heap.size := by omega
            have z1 : (0 : Int) ≤ (j : Int) := by omega
            have z2 : (j : Int) < (n : Int) := by omega
            have z3 : (0 : Int) ≤ (k : Int) := by omega
            have z4 : (k : Int) < (n : Int) := by omega
            obtain ⟨v1, hv1⟩ : ∃ v, (yk == 5) = v := ⟨_, rfl⟩
            obtain ⟨v2, hv2⟩ : ∃ v, (yp.toList == p.toList) = v := ⟨_, rfl⟩
            obtain ⟨v3, hv3⟩ : ∃ v, (yn == xn) = v := ⟨_, rfl⟩
            have hre : isRe p xn ⟨yd, yk, yp, yn, ys, yg⟩ = (v1 && (v2 && v3)) := by
              rw [← hv1, ← hv2, ← hv3]
              simp only [isRe, eqS]
              rw [show decide (yk = 5) = (yk == 5) by by_cases h : yk = 5 <;> simp [h], show decide (yn = xn) = (yn == xn) by by_cases h : yn = xn <;> simp [h]]
            rw [hre] at hst
            have HST := Lib.hid hst
            clear e hy hb2 hst hre c0 c1 c2 c3 c4 c5 hbb hbb'
            by_cases hall : (v1 && (v2 && v3)) = true
            · obtain ⟨rfl, rfl, rfl⟩ : v1 = true ∧ v2 = true ∧ v3 = true := by simpa using hall
              clear hall
              go_wp2
              go_quiet (fail)
              go_wp2
              go_roundw
              case rel =>
                have hb0 := HBQ.out
                exact ⟨j + 1, by omega, by go_num, ⟨false, rfl, Lib.hid (by rw [← HBV.out, HST.out]; simp)⟩, (by repeat (first | with_reducible exact Below.refl _ _ | with_reducible assumption | with_reducible refine Below.drew ?_ | with_reducible refine Below.drewN ?_ _ | with_reducible refine Below.alloc2 ?_ _ | with_reducible refine Below.alloc ?_ (by first | omega | (simp <;> omega)) _ | with_reducible refine Below.setCell ?_ (by first | omega | (simp <;> omega)) _ | with_reducible refine Below.step2 (by with_reducible assumption) ?_ | with_reducible refine Below.step (by with_reducible assumption) ?_ (by first | omega | (simp <;> omega))))⟩
              case measure => simp [intOf]; omega
            · have HST2 : Hid (repIn (l.drop j) p xn = repIn (l.drop (j + 1)) p xn) := Lib.hid (by
                have := HST.out
                rw [show (v1 && (v2 && v3)) = false by simpa using hall] at this
                simpa using this)
              cases v1
              · go_wp2
                go_quiet (fail)
                go_wp2
                go_roundw
                case rel =>
                  have hb0 := HBQ.out
                  exact ⟨j + 1, by omega, by go_num, ⟨bv, rfl, Lib.hid (by rw [← HST2.out]; exact HBV.out)⟩, (by repeat (first | with_reducible exact Below.refl _ _ | with_reducible assumption | with_reducible refine Below.drew ?_ | with_reducible refine Below.drewN ?_ _ | with_reducible refine Below.alloc2 ?_ _ | with_reducible refine Below.alloc ?_ (by first | omega | (simp <;> omega)) _ | with_reducible refine Below.setCell ?_ (by first | omega | (simp <;> omega)) _ | with_reducible refine Below.step2 (by with_reducible assumption) ?_ | with_reducible refine Below.step (by with_reducible assumption) ?_ (by first | omega | (simp <;> omega))))⟩
                case measure => simp [intOf]; omega
              cases v2
              · go_wp2
                go_quiet (fail)
                go_wp2
                go_roundw
                case rel =>
                  have hb0 := HBQ.out
                  exact ⟨j + 1, by omega, by go_num, ⟨bv, rfl, Lib.hid (by rw [← HST2.out]; exact HBV.out)⟩, (by repeat (first | with_reducible exact Below.refl _ _ | with_reducible assumption | with_reducible refine Below.drew ?_ | with_reducible refine Below.drewN ?_ _ | with_reducible refine Below.alloc2 ?_ _ | with_reducible refine Below.alloc ?_ (by first | omega | (simp <;> omega)) _ | with_reducible refine Below.setCell ?_ (by first | omega | (simp <;> omega)) _ | with_reducible refine Below.step2 (by with_reducible assumption) ?_ | with_reducible refine Below.step (by with_reducible assumption) ?_ (by first | omega | (simp <;> omega))))⟩
                case measure => simp [intOf]; omega
              cases v3
              · go_wp2
                go_quiet (fail)
                go_wp2
                go_roundw
                case rel =>
                  have hb0 := HBQ.out
                  exact ⟨j + 1, by omega, by go_num, ⟨bv, rfl, Lib.hid (by rw [← HST2.out]; exact HBV.out)⟩, (by repeat (first | with_reducible exact Below.refl _ _ | with_reducible assumption | with_reducible refine Below.drew ?_ | with_reducible refine Below.drewN ?_ _ | with_reducible refine Below.alloc2 ?_ _ | with_reducible refine Below.alloc ?_ (by first | omega | (simp <;> omega)) _ | with_reducible refine Below.setCell ?_ (by first | omega | (simp <;> omega)) _ | with_reducible refine Below.step2 (by with_reducible assumption) ?_ | with_reducible refine Below.step (by with_reducible assumption) ?_ (by first | omega | (simp <;> omega))))⟩
                case measure => simp [intOf]; omega
              · exact absurd rfl hall
          · have HBR : Hid (bv = R) := Lib.hid (by
              rw [← HBV.out, List.drop_eq_nil_of_le (by rw [HLEN.out]; omega)]
              simp [repIn])
            have hc3 : wq.cell? ⟨b, o + k * 6 + 3, none⟩ = some (.int .i64 xn) := ((bcell hb2).1 _ _ ob).trans c3
            have ob2 : b < wq.heap.size := by omega
            clear hb2 c0 c1 c2 c3 c4 c5
            cases bv
            · obtain rfl : R = false := HBR.out.symm
              go_wp2
              go_roundw
              case rel => exact ⟨k + 1, by omega, by go_num, ⟨m, os, Lib.hid HY2.out, HOWN2.out⟩, HB2.out⟩
              case measure => simp [intOf]; omega
            · obtain rfl : R = true := HBR.out.symm
              go_wp2_with (at_builtin; refine wpList_append_own_at _ rfl _ _ _ rfl w.heap.size 3 i0 _ 1 8 Try.underlying40 HI0.out HZ0.out HZ1.out HZ2.out HZS.out (by omega) _ m (i64s os) rfl ((HOWN2.out).alloc _) ⟨wq.heap.size, 0, none⟩ 1 1 [.int .i64 xn] rfl rfl (World.news_of_block (cs := #[.int .i64 xn]) (t := 3) (fr := (0, 0)) (heap_alloc_new wq _)) (by intro u hu; simp at hu; subst hu; rfl) (by unfold maxLen; omega) (by omega) (by simp; omega) ?_; intro v1 w1 hown1 hg1 _ _; have HO1 := Lib.hid hown1; have HG1 := Lib.hid hg1; clear hown1 hg1)
              go_roundw
              case rel =>
                have hb0 := HB2.out
                refine ⟨k + 1, by omega, by go_num, ⟨m + 1, os ++ [xn], Lib.hid HY2.out, ?_⟩, ?_⟩
                · have := HO1.out
                  simpa [i64s] using this
                · exact Below.grown_ (hb0.alloc hb0.size _) HG1.out (by simp; omega) (fun q hq => by have := (HOWN2.out.lt _ hq).1; omega)
              case measure => simp [intOf]; omega
    · have HE : Hid (olist l p = os) := Lib.hid (by
        have := HP.out
        rw [show k = l.length by rw [HLEN.out]; omega, oTo_all] at this
        exact this)
      obtain ⟨A', c', rfl, hs, -⟩ := Sl.of_own HOWN.out
      have HSL := Lib.hid hs
      clear hs
      go_wp2
      go_ret
      refine ⟨HB.out, A', m, c', rfl, ?_⟩
      rw [HE.out]
      exact ⟨HSL.out⟩

end Go.Proofs.Ytgjjjnofdjhikaa
