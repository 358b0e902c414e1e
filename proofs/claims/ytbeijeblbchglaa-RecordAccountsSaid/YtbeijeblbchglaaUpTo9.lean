/- Chapter 9, walks: the moves up to a day, on both sides; the charge for a lot. -/
import Derived.Test.YtbeijeblbchglaaChgMath9
import Derived.Test.YtbeijeblbchglaaLotsOf9
namespace Go.Proofs.Ytbeijeblbchglaa
open Go.RowKit Go.WideShapes Go.Deep

set_option maxRecDepth 100000 in
set_option maxHeartbeats 4000000 in
theorem movesUpTo_any (A : Option Addr) (n c : Nat) (l : List Mv) (day : Int) (w : World) (h : Rws Mv.cs 4 w w.heap.size A n c l) :
    Calls Try.prog 68 #[.slice A n c, .int .i64 day] w fun e w' => Below w.heap.size w w' ∧ e = .returned (.slice A (upN day l) c) := by
  have hcap := h.cap
  have hmax := h.max
  have HLEN := Lib.hid h.len
  have H : Hid (∀ w', Below w.heap.size w w' → Rws Mv.cs 4 w' w.heap.size A n c l) := fun w' hb => h.below hb (Nat.le_refl _) (Nat.le_refl _)
  obtain ⟨R, hR⟩ : ∃ R, upN day l = R := ⟨_, rfl⟩
  have HR := Lib.hid hR
  rw [hR]
  clear h hR
  go_enter Try.func68, Try.ntmps68
  go_wp2
  go_loopw [5, 6, 9] (fun _ _ i wr => ∃ k : Nat, k ≤ n ∧ i = .int .i64 k ∧ Hid (upN day l = k + upN day (l.drop k)) ∧ Below w.heap.size w wr) (fun _ _ i _ => n - (intOf i).toNat)
  case atStart => exact ⟨0, Nat.zero_le _, rfl, Lib.hid (by simp), (by repeat (first | with_reducible exact Below.refl _ _ | with_reducible assumption | with_reducible refine Below.drew ?_ | with_reducible refine Below.drewN ?_ _ | with_reducible refine Below.alloc2 ?_ _ | with_reducible refine Below.alloc ?_ (by first | omega | (simp <;> omega)) _ | with_reducible refine Below.setCell ?_ (by first | omega | (simp <;> omega)) _ | with_reducible refine Below.step2 (by with_reducible assumption) ?_ | with_reducible refine Below.step (by with_reducible assumption) ?_ (by first | omega | (simp <;> omega))))⟩
  case round =>
    obtain ⟨k, hk, rfl, HV, hb⟩ := hrel
    have HB := Lib.hid hb
    have ow := hb.size
    by_cases hlt : k < n
    · obtain ⟨b, o, ⟨xd, xk, xp, xn⟩, rfl, hbb, hx, c0, c1, c2, c3⟩ := (H.out _ hb).mv hlt
      dsimp only at c0 c1 c2 c3
      have z1 : (0 : Int) ≤ (k : Int) := by omega
      have z2 : (k : Int) < (n : Int) := by omega
      have z3 : (k : Int) ≤ (c : Int) := by omega
      have ob : b < wr.heap.size := by omega
      by_cases hd : day < xd
      · obtain rfl : R = k := by rw [← HR.out]; exact upN_stop hx HV.out hd
        clear hx hb
        go_wp2
        go_ret
        have hb0 := HB.out
        exact ⟨(by repeat (first | with_reducible exact Below.refl _ _ | with_reducible assumption | with_reducible refine Below.drew ?_ | with_reducible refine Below.drewN ?_ _ | with_reducible refine Below.alloc2 ?_ _ | with_reducible refine Below.alloc ?_ (by first | omega | (simp <;> omega)) _ | with_reducible refine Below.setCell ?_ (by first | omega | (simp <;> omega)) _ | with_reducible refine Below.step2 (by with_reducible assumption) ?_ | with_reducible refine Below.step (by with_reducible assumption) ?_ (by first | omega | (simp <;> omega)))), rfl⟩
      · have HN := Lib.hid (upN_next hx HV.out hd)
        clear hx hb
        go_wp2
        go_roundw
        case rel =>
          have hb0 := HB.out
          exact ⟨k + 1, by omega, by go_num, HN, (by repeat (first | with_reducible exact Below.refl _ _ | with_reducible assumption | with_reducible refine Below.drew ?_ | with_reducible refine Below.drewN ?_ _ | with_reducible refine Below.alloc2 ?_ _ | with_reducible refine Below.alloc ?_ (by first | omega | (simp <;> omega)) _ | with_reducible refine Below.setCell ?_ (by first | omega | (simp <;> omega)) _ | with_reducible refine Below.step2 (by with_reducible assumption) ?_ | with_reducible refine Below.step (by with_reducible assumption) ?_ (by first | omega | (simp <;> omega))))⟩
        case measure => simp [intOf]; omega
    · obtain rfl : R = n := by
        have := upN_end (by rw [HLEN.out]; omega) HV.out
        rw [← HR.out, this]
        omega
      clear hb
      go_wp2
      go_ret
      exact ⟨HB.out, rfl⟩

theorem info_mv9 : (Try.prog.info? 90).map (fun i => (i.zero.map (·.cells.size), i.size, i.bytes)) = some (some 4, 4, 40) := by kernel_rfl
theorem info_ch9 : (Try.prog.info? 85).map (fun i => (i.zero.map (·.cells.size), i.size, i.bytes)) = some (some 4, 4, 40) := by kernel_rfl
section
variable {w : World} {base : Nat} {ops : Array Oper} {rest : List Oper} {o : Oper} {a : Act} {Q : Exit → Act → World → Prop}
/-- A move, behind a row of the call's own. -/
theorem app_mv {W : List Mv} {vw : Value} (h : w.ownsRow base 90 4 vw W.length (W.flatMap Mv.cs)) (hgd : o.guard = none) (s x : Operand) (ho : o.op = .call { callee := .builtin .append, args := #[s, x], argTypes := #[40, 40] })
    (hs : a.eval s = vw) (y : Mv) (B : Nat) (hx : a.eval x = .slice (some ⟨B, 0, none⟩) 1 1) (hB : Bk w B 90 y.cs.toArray) (hn : W.length ≤ 30000) (hbase : base ≤ w.heap.size)
    (hK : ∀ v' w', w'.ownsRow base 90 4 v' (W ++ [y]).length ((W ++ [y]).flatMap Mv.cs) → w.grownBy w' vw.ownBlock → wpList Try.prog ops Q rest (a.put o.dst v') w') : wpList Try.prog ops Q (o :: rest) a w := by
  obtain ⟨i0, z, hi0, hz0, hzs, hz1, hz2⟩ := info_cells info_mv9
  exact wpList_append_own_at w hgd s x _ ho base 90 i0 z 4 40 Try.underlying40 hi0 hz0 hz1 hz2 hzs (by omega) vw W.length (W.flatMap Mv.cs) hs h ⟨B, 0, none⟩ 1 1 y.cs hx rfl (World.news_of_block (fr := (0, 0)) hB) (Mv.one y) (by unfold maxLen; omega) (by omega) hbase fun v' w' h1 h2 _ h4 => hK v' w' (by simpa using h1) h2
/-- A charge, behind a row of the call's own. -/
theorem app_ch {W : List Q4} {vw : Value} (h : w.ownsRow base 85 4 vw W.length (W.flatMap Q4.cs)) (hgd : o.guard = none) (s x : Operand) (ho : o.op = .call { callee := .builtin .append, args := #[s, x], argTypes := #[62, 62] })
    (hs : a.eval s = vw) (y : Q4) (B : Nat) (hx : a.eval x = .slice (some ⟨B, 0, none⟩) 1 1) (hB : Bk w B 85 y.cs.toArray) (hn : W.length ≤ 30000) (hbase : base ≤ w.heap.size)
    (hK : ∀ v' w', w'.ownsRow base 85 4 v' (W ++ [y]).length ((W ++ [y]).flatMap Q4.cs) → w.grownBy w' vw.ownBlock → (v'.ownBlock = vw.ownBlock ∨ v'.ownBlock = some w.heap.size) → wpList Try.prog ops Q rest (a.put o.dst v') w') : wpList Try.prog ops Q (o :: rest) a w := by
  obtain ⟨i0, z, hi0, hz0, hzs, hz1, hz2⟩ := info_cells info_ch9
  exact wpList_append_own_at w hgd s x _ ho base 85 i0 z 4 40 Try.underlying62 hi0 hz0 hz1 hz2 hzs (by omega) vw W.length (W.flatMap Q4.cs) hs h ⟨B, 0, none⟩ 1 1 y.cs hx rfl (World.news_of_block (fr := (0, 0)) hB) (Q4.one y) (by unfold maxLen; omega) (by omega) hbase fun v' w' h1 h2 _ h4 => hK v' w' (by simpa using h1) h2 h4
end
def dayF (day : Int) (x : Mv) : Bool := decide (x.d ≤ day)
theorem filter_step {α : Type} {q : α → Bool} {l : List α} {k : Nat} {x : α} (hx : l[k]? = some x) : (l.take (k + 1)).filter q = (l.take k).filter q ++ if q x = true then [x] else [] := by
  rw [take_step hx, List.filter_append]
  by_cases h : q x = true <;> simp [h]
set_option maxRecDepth 100000 in
set_option maxHeartbeats 4000000 in
theorem refUpto_any (A : Option Addr) (n c : Nat) (l : List Mv) (day : Int) (w : World) (h : Rws Mv.cs 4 w w.heap.size A n c l) (hn : n ≤ 300) :
    Calls Try.prog 44 #[.slice A n c, .int .i64 day] w fun e w' => Below w.heap.size w w' ∧ ∃ v, e = .returned v ∧ w'.ownsRow w.heap.size 90 4 v (l.filter (dayF day)).length ((l.filter (dayF day)).flatMap Mv.cs) := by
  have hcap := h.cap
  have hmax := h.max
  have HLEN := Lib.hid h.len
  have H : Hid (∀ w', Below w.heap.size w w' → Rws Mv.cs 4 w' w.heap.size A n c l) := fun w' hb => h.below hb (Nat.le_refl _) (Nat.le_refl _)
  clear h
  go_enter Try.func44, Try.ntmps44
  go_wp2
  go_loopw [5, 6] (fun vo i wr => ∃ (k : Nat) (W : List Mv), k ≤ n ∧ i = .int .i64 k ∧ Hid ((l.take k).filter (dayF day) = W) ∧ wr.ownsRow w.heap.size 90 4 vo W.length (W.flatMap Mv.cs) ∧ Below w.heap.size w wr) (fun _ i _ => n - (intOf i).toNat)
  case atStart => exact ⟨0, [], Nat.zero_le _, rfl, Lib.hid rfl, World.ownsRow_nil _ _ _ _, (by repeat (first | with_reducible exact Below.refl _ _ | with_reducible assumption | with_reducible refine Below.drew ?_ | with_reducible refine Below.drewN ?_ _ | with_reducible refine Below.alloc2 ?_ _ | with_reducible refine Below.alloc ?_ (by first | omega | (simp <;> omega)) _ | with_reducible refine Below.setCell ?_ (by first | omega | (simp <;> omega)) _ | with_reducible refine Below.step2 (by with_reducible assumption) ?_ | with_reducible refine Below.step (by with_reducible assumption) ?_ (by first | omega | (simp <;> omega))))⟩
  case round =>
    obtain ⟨k, W, hk, rfl, HV, ho, hb⟩ := hrel
    have HB := Lib.hid hb
    have HO := Lib.hid ho
    have ow := hb.size
    by_cases hlt : k < n
    · obtain ⟨b, o, ⟨xd, xk, xp, xn⟩, rfl, hbb, hx, c0, c1, c2, c3⟩ := (H.out _ hb).mv hlt
      dsimp only at c0 c1 c2 c3
      have HWL : Hid (W.length ≤ 30000) := Lib.hid (by
        rw [← HV.out]
        have := List.length_filter_le (dayF day) (l.take k)
        rw [List.length_take] at this
        omega)
      have hst := filter_step (q := dayF day) hx
      rw [HV.out] at hst
      have z1 : (0 : Int) ≤ (k : Int) := by omega
      have z2 : (k : Int) < (n : Int) := by omega
      have ob : b < wr.heap.size := by omega
      by_cases hd : xd ≤ day
      · rw [if_pos (show dayF day ⟨xd, xk, xp, xn⟩ = true from decide_eq_true hd)] at hst
        have HS := Lib.hid hst
        clear hx hb ho hst
        go_wp2_with (at_builtin; go_loud (refine app_mv (W := W) (base := w.heap.size) (vw := u5) ?_ rfl _ _ rfl rfl ⟨xd, xk, xp, xn⟩ _ rfl ?_ HWL.out ?_ ?_; (exact own_step HO.out (by exact (by repeat (first | with_reducible exact Below.refl _ _ | with_reducible assumption | with_reducible refine Below.drew ?_ | with_reducible refine Below.drewN ?_ _ | with_reducible refine Below.alloc2 ?_ _ | with_reducible refine Below.alloc ?_ (by first | omega | (simp <;> omega)) _ | with_reducible refine Below.setCell ?_ (by first | omega | (simp <;> omega)) _ | with_reducible refine Below.step2 (by with_reducible assumption) ?_ | with_reducible refine Below.step (by with_reducible assumption) ?_ (by first | omega | (simp <;> omega)))))); (focus (show Bk _ _ _ #[.int .i64 xd, .int .i64 xk, .string xp, .int .i64 xn]; exact (by repeat (first | with_reducible assumption | with_reducible exact Bk.at_ (by first | (simp; done) | omega) | with_reducible refine Bk.alloc ?_ _ | with_reducible refine Bk.drew ?_ | with_reducible refine Bk.drewN ?_ _ | with_reducible refine Bk.step (by with_reducible assumption) ?_ (by first | omega | (simp <;> omega)))))); (focus (simp; omega)); intro v1 w1 ho1 hg1; have HO1 := Lib.hid ho1; have HG1 := Lib.hid hg1; clear ho1 hg1))
        go_roundw
        case rel =>
          have hb0 := HB.out
          refine ⟨k + 1, W ++ [⟨xd, xk, xp, xn⟩], by omega, by go_num, HS, HO1.out, ?_⟩
          exact Below.grown_ (D := w.heap.size) (by exact (by repeat (first | with_reducible exact Below.refl _ _ | with_reducible assumption | with_reducible refine Below.drew ?_ | with_reducible refine Below.drewN ?_ _ | with_reducible refine Below.alloc2 ?_ _ | with_reducible refine Below.alloc ?_ (by first | omega | (simp <;> omega)) _ | with_reducible refine Below.setCell ?_ (by first | omega | (simp <;> omega)) _ | with_reducible refine Below.step2 (by with_reducible assumption) ?_ | with_reducible refine Below.step (by with_reducible assumption) ?_ (by first | omega | (simp <;> omega))))) HG1.out (by simp; omega) (fun q hq => (HO.out.lt q hq).1)
        case measure => simp [intOf]; omega
      · rw [if_neg (show ¬ dayF day ⟨xd, xk, xp, xn⟩ = true by simp [dayF]; omega), List.append_nil] at hst
        have HS := Lib.hid hst
        clear hx hb ho hst
        go_wp2
        go_roundw
        case rel => exact ⟨k + 1, W, by omega, by go_num, HS, HO.out, HB.out⟩
        case measure => simp [intOf]; omega
    · have hW : W = l.filter (dayF day) := by
        rw [← HV.out, List.take_of_length_le (by rw [HLEN.out]; omega)]
      have HW := Lib.hid hW
      clear hb ho hW
      go_wp2
      go_ret
      refine ⟨HB.out, _, rfl, ?_⟩
      rw [← HW.out]
      exact HO.out

set_option maxRecDepth 100000 in
set_option maxHeartbeats 4000000 in
theorem chargeOf_any (xs yp : ByteArray) (xa xb xc yn yi yd yo day : Int) (w : World) (h : okL day ⟨yp, yn, yi, yd, yo⟩) (hD : day ≤ 20000) (ht : okT ⟨xs, xa, xb, xc⟩) :
    Calls Try.prog 78 #[.agg #[.string xs, .int .i64 xa, .int .i64 xb, .int .i64 xc], .agg #[.string yp, .int .i64 yn, .int .i64 yi, .int .i64 yd, .int .i64 yo], .int .i64 day] w fun e w' => Below w.heap.size w w' ∧ e = .returned (.agg (chg day ⟨xs, xa, xb, xc⟩ ⟨yp, yn, yi, yd, yo⟩).cs.toArray) := by
  obtain ⟨⟨k1, k2⟩, ⟨m1, m2⟩, a1, a2⟩ := chg_bd h hD ht
  have hE := endD_ok h hD
  obtain ⟨⟨t1, t2⟩, -, t3, t4⟩ := ht
  have hC : (chg day ⟨xs, xa, xb, xc⟩ ⟨yp, yn, yi, yd, yo⟩).cs.toArray = #[.string yp, .int .i64 yn, .int .i64 (wks yi (endD ⟨yp, yn, yi, yd, yo⟩ day) xb), .int .i64 (yn * (wks yi (endD ⟨yp, yn, yi, yd, yo⟩ day) xb * xa + if yo = 2 then xc else 0))] := rfl
  rw [hC]
  have a3 : 0 ≤ yn * (wks yi (endD ⟨yp, yn, yi, yd, yo⟩ day) xb * xa + if yo = 2 then xc else 0) ∧ yn * (wks yi (endD ⟨yp, yn, yi, yd, yo⟩ day) xb * xa + if yo = 2 then xc else 0) ≤ 285900000000000 := ⟨a1, a2⟩
  obtain ⟨E, hEE⟩ : ∃ E, endD ⟨yp, yn, yi, yd, yo⟩ day = E := ⟨_, rfl⟩
  have HEE : Hid ((if yo = -1 then day else yd) = E) := Lib.hid hEE
  (try dsimp only at k1 k2 m1 m2 a1 a2 a3 hE t1 t2 t3 t4)
  rw [hEE] at k1 k2 m1 m2 a3 hE ⊢
  obtain ⟨K, hK⟩ : ∃ K, wks yi E xb = K := ⟨_, rfl⟩
  have WK : Hid (∀ W, Calls Try.prog 65 #[.int .i64 yi, .int .i64 E, .int .i64 xb] W fun e w' => W = w' ∧ e = .returned (.int .i64 K)) := Lib.hid fun W => by
    have := weeksOf_any yi E xb hE W
    rwa [hK] at this
  rw [hK] at k1 k2 m1 m2 a3 ⊢
  clear hEE hC h a1 a2 hE hK
  have hw1 : IntKind.i64.wrap (K * xa) = K * xa := IntWalk.i64_in _ (by omega)
  by_cases h1 : yo = -1
  · have e1 : day = E := by have := HEE.out; rwa [if_pos h1] at this
    have h2 : ¬ yo = 2 := by omega
    rw [if_neg h2, Int.add_zero] at a3 ⊢
    have hw3 : IntKind.i64.wrap (yn * (K * xa)) = yn * (K * xa) := IntWalk.i64_in _ (by omega)
    subst e1
    subst h1
    clear a3 m1 m2 h2
    go_enter Try.func78, Try.ntmps78
    go_wp2_with (go_at_call 65; refine (WK.out _).mono ?_; rintro e w' ⟨rfl, rfl⟩)
    refine bodyPost_ret (v := .agg #[.string yp, .int .i64 yn, .int .i64 K, .int .i64 (yn * (K * xa))]) (by simp [results, Try.results78, go_sem]) rfl ⟨(by repeat (first | with_reducible exact Below.refl _ _ | with_reducible assumption | with_reducible refine Below.drew ?_ | with_reducible refine Below.drewN ?_ _ | with_reducible refine Below.alloc2 ?_ _ | with_reducible refine Below.alloc ?_ (by first | omega | (simp <;> omega)) _ | with_reducible refine Below.setCell ?_ (by first | omega | (simp <;> omega)) _ | with_reducible refine Below.step2 (by with_reducible assumption) ?_ | with_reducible refine Below.step (by with_reducible assumption) ?_ (by first | omega | (simp <;> omega)))), rfl⟩
  · have e1 : yd = E := by have := HEE.out; rwa [if_neg h1] at this
    have d1 : (yo != -1) = true := by simpa using h1
    subst e1
    by_cases h2 : yo = 2
    · rw [if_pos h2] at a3 ⊢
      have hw2 : IntKind.i64.wrap (K * xa + xc) = K * xa + xc := IntWalk.i64_in _ (by omega)
      have hw3 : IntKind.i64.wrap (yn * (K * xa + xc)) = yn * (K * xa + xc) := IntWalk.i64_in _ (by omega)
      subst h2
      clear a3 m1 m2 h1
      go_enter Try.func78, Try.ntmps78
      go_wp2_with (go_at_call 65; refine (WK.out _).mono ?_; rintro e w' ⟨rfl, rfl⟩)
      refine bodyPost_ret (v := .agg #[.string yp, .int .i64 yn, .int .i64 K, .int .i64 (yn * (K * xa + xc))]) (by simp [results, Try.results78, go_sem]) rfl ⟨(by repeat (first | with_reducible exact Below.refl _ _ | with_reducible assumption | with_reducible refine Below.drew ?_ | with_reducible refine Below.drewN ?_ _ | with_reducible refine Below.alloc2 ?_ _ | with_reducible refine Below.alloc ?_ (by first | omega | (simp <;> omega)) _ | with_reducible refine Below.setCell ?_ (by first | omega | (simp <;> omega)) _ | with_reducible refine Below.step2 (by with_reducible assumption) ?_ | with_reducible refine Below.step (by with_reducible assumption) ?_ (by first | omega | (simp <;> omega)))), rfl⟩
    · have d2 : (yo == 2) = false := by simpa using h2
      rw [if_neg h2, Int.add_zero] at a3 ⊢
      have hw3 : IntKind.i64.wrap (yn * (K * xa)) = yn * (K * xa) := IntWalk.i64_in _ (by omega)
      clear a3 m1 m2 h1 h2
      go_enter Try.func78, Try.ntmps78
      go_wp2_with (go_at_call 65; refine (WK.out _).mono ?_; rintro e w' ⟨rfl, rfl⟩)
      refine bodyPost_ret (v := .agg #[.string yp, .int .i64 yn, .int .i64 K, .int .i64 (yn * (K * xa))]) (by simp [results, Try.results78, go_sem]) rfl ⟨(by repeat (first | with_reducible exact Below.refl _ _ | with_reducible assumption | with_reducible refine Below.drew ?_ | with_reducible refine Below.drewN ?_ _ | with_reducible refine Below.alloc2 ?_ _ | with_reducible refine Below.alloc ?_ (by first | omega | (simp <;> omega)) _ | with_reducible refine Below.setCell ?_ (by first | omega | (simp <;> omega)) _ | with_reducible refine Below.step2 (by with_reducible assumption) ?_ | with_reducible refine Below.step (by with_reducible assumption) ?_ (by first | omega | (simp <;> omega)))), rfl⟩

end Go.Proofs.Ytbeijeblbchglaa
