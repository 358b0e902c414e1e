/- Chapter 9, walks: the account of a day. -/
import Derived.Test.YtbeijeblbchglaaChgMathB9
import Derived.Test.YtbeijeblbchglaaUpTo9
import Derived.Test.YtbeijeblbchglaaLots9
namespace Go.Proofs.Ytbeijeblbchglaa
open Go.RowKit Go.WideShapes Go.Deep

theorem chgs_len (t : List Q4) (l : List Mv) (day : Int) : (chgs t l day).length = (lotsT t l).length := by
  induction t with
  | nil => rfl
  | cons x t ih =>
    have e1 : chgs (x :: t) l day = chgL day x (lotsR x.s l) ++ chgs t l day := by simp [chgs]
    have e2 : lotsT (x :: t) l = lotsR x.s l ++ lotsT t l := by simp [lotsT]
    rw [e1, e2, List.length_append, List.length_append, ih]
    simp [chgL]
theorem rws_own {w : World} {base e n c size : Nat} {α : Type} {f : α → List Value} {A : Option Addr} {l : List α} (h : w.ownsRow base e size (.slice A n c) n (l.flatMap f)) (hl : l.length = n) : Rws f size w w.heap.size A n c l := by
  obtain ⟨A', c', e1, hr⟩ := Rws.of_own h hl
  injection e1 with e1 e2 e3
  subst e1; subst e3
  exact hr
theorem own_base {w : World} {base base' e size n : Nat} {v : Value} {xs : List Value} (h : w.ownsRow base e size v n xs) (hb : base' ≤ base) : w.ownsRow base' e size v n xs := by
  refine ⟨h.1, ?_⟩
  rcases h.2 with h | ⟨g, cap, cur, rfl, hbg, rest⟩
  · exact .inl h
  · exact .inr ⟨g, cap, cur, rfl, by omega, rest⟩
theorem kept_far {w w' : World} {base e size n : Nat} {v : Value} {xs : List Value} {row : Option Nat} (h : w.ownsRow base e size v n xs) (hg : w.grownBy w' row) (hf : ∀ q, v.ownBlock = some q → row ≠ some q) : w'.ownsRow base e size v n xs := by
  refine h.kept hg ?_
  cases hv : v.ownBlock with
  | none => exact .inl rfl
  | some q => exact .inr fun e => hf q hv e.symm
set_option maxRecDepth 100000 in
set_option maxHeartbeats 8000000 in
theorem accountOf_any (T A : Option Addr) (tn tc n c : Nat) (t : List Q4) (l : List Mv) (day : Int) (w : World) (ht : Rws Q4.cs 4 w w.heap.size T tn tc t) (h : Rws Mv.cs 4 w w.heap.size A n c l) (hg : Good t l) (hd : dayB day = true) :
    Calls Try.prog 66 #[.slice T tn tc, .slice A n c, .int .i64 day] w fun e w' => Below w.heap.size w w' ∧ ∃ v, e = .returned v ∧ w'.ownsRow w.heap.size 85 4 v (chgs t (upM l day) day).length ((chgs t (upM l day) day).flatMap Q4.cs) := by
  have hcap := ht.cap
  have hmax := ht.max
  have HLT := Lib.hid ht.len
  have hday := dayB_iff.1 hd
  have hup : upN day l ≤ n := by have := upN_le day l; rwa [h.len] at this
  have hgu := hg.up day
  obtain ⟨m, hm⟩ : ∃ m, upN day l = m := ⟨_, rfl⟩
  obtain ⟨L, hL⟩ : ∃ L, upM l day = L := ⟨_, rfl⟩
  have hLm : l.take m = L := by rw [← hL, upM, hm]
  rw [hL] at hgu ⊢
  have MU : Hid (∀ W, Below w.heap.size w W → Calls Try.prog 68 #[.slice A n c, .int .i64 day] W fun e w' => Below W.heap.size W w' ∧ e = .returned (.slice A m c)) := Lib.hid fun W hW => by
    have := movesUpTo_any A n c l day W (h.below hW (Nat.le_refl _) hW.size)
    rwa [hm] at this
  have LO : Hid (∀ p W, Below w.heap.size w W → Calls Try.prog 60 #[.string p, .slice A m c] W fun e w' => Below W.heap.size W w' ∧ ∃ v, e = .returned v ∧ w'.ownsRow W.heap.size 54 5 v (lotsR p L).length ((lotsR p L).flatMap Lt.cs)) := Lib.hid fun p W hW => by
    have hr := (h.below hW (Nat.le_refl _) hW.size).take Mv.wide (show m ≤ n by omega)
    rw [hLm] at hr
    rw [← lots_same (hgu.st p)]
    refine lotsOf_any p A m c L W hr (hgu.st p) hgu.ok ?_
    have := hgu.ln
    have := hr.len
    omega
  have HLN : Hid (∀ k p, (chgs (t.take k) L day).length + (lotsR p L).length ≤ 20000 ∧ (lotsR p L).length ≤ 300) := Lib.hid fun k p => by
    have h1 := lotsT_len hgu.st (t.take k)
    have h2 := lotsR_len (hgu.st p)
    have h3 : (t.take k).length ≤ 60 := by rw [List.length_take]; have := hg.tn; omega
    have h4 := hgu.ln
    have h5 : (t.take k).length * L.length ≤ 60 * 300 := Nat.mul_le_mul h3 h4
    rw [chgs_len]
    omega
  have HOK : Hid (∀ p, ∀ y ∈ lotsR p L, okL day y) := Lib.hid fun p => by
    rw [← hL]
    exact hg.lots hday.1 p
  have HTT := Lib.hid hg.term
  have HT : Hid (∀ w', Below w.heap.size w w' → Rws Q4.cs 4 w' w.heap.size T tn tc t) := fun w' hb => ht.below hb (Nat.le_refl _) (Nat.le_refl _)
  clear ht h hg hgu hd hL hLm hm hup
  go_enter Try.func66, Try.ntmps66
  go_wp2
  go_loopw [7, 9, 11, 14] (fun vo _ _ i wr => ∃ k : Nat, k ≤ tn ∧ i = .int .i64 k ∧ wr.ownsRow w.heap.size 85 4 vo (chgs (t.take k) L day).length ((chgs (t.take k) L day).flatMap Q4.cs) ∧ Below w.heap.size w wr) (fun _ _ _ i _ => tn - (intOf i).toNat)
  case atStart => exact ⟨0, Nat.zero_le _, rfl, World.ownsRow_nil _ _ _ _, (by repeat (first | with_reducible exact Below.refl _ _ | with_reducible assumption | with_reducible refine Below.drew ?_ | with_reducible refine Below.drewN ?_ _ | with_reducible refine Below.alloc2 ?_ _ | with_reducible refine Below.alloc ?_ (by first | omega | (simp <;> omega)) _ | with_reducible refine Below.setCell ?_ (by first | omega | (simp <;> omega)) _ | with_reducible refine Below.step2 (by with_reducible assumption) ?_ | with_reducible refine Below.step (by with_reducible assumption) ?_ (by first | omega | (simp <;> omega))))⟩
  case round =>
    obtain ⟨k, hk, rfl, ho, hb⟩ := hrel
    have HB := Lib.hid hb
    have HO := Lib.hid ho
    have ow := hb.size
    by_cases hlt : k < tn
    · obtain ⟨b, o, ⟨xs, xa, xb, xc⟩, rfl, hbb, hx, c0, c1, c2, c3⟩ := (HT.out _ hb).q4 hlt
      dsimp only at c0 c1 c2 c3
      have HX := Lib.hid (chgs_step hx L day)
      have HTX := Lib.hid (HTT.out _ (List.mem_of_getElem? hx))
      have z1 : (0 : Int) ≤ (k : Int) := by omega
      have z2 : (k : Int) < (tn : Int) := by omega
      have ob : b < wr.heap.size := by omega
      obtain ⟨hl1, hl2⟩ := HLN.out k xs
      have HOX := Lib.hid (HOK.out xs)
      obtain ⟨LL, hLL⟩ : ∃ LL, lotsR xs L = LL := ⟨_, rfl⟩
      obtain ⟨S0, hS0⟩ : ∃ S, chgs (t.take k) L day = S := ⟨_, rfl⟩
      obtain ⟨N, hN⟩ : ∃ N, LL.length = N := ⟨_, rfl⟩
      have HNL := Lib.hid hN
      have LOX : Hid (∀ W, Below w.heap.size w W → Calls Try.prog 60 #[.string xs, .slice A m c] W fun e w' => Below W.heap.size W w' ∧ ∃ v, e = .returned v ∧ w'.ownsRow W.heap.size 54 5 v N (LL.flatMap Lt.cs)) := Lib.hid fun W hW => by
        have := LO.out xs W hW
        rwa [hLL, hN] at this
      rw [hLL] at HOX
      have HLL := Lib.hid hLL
      have HS0 := Lib.hid hS0
      rw [hLL, hS0, hN] at hl1
      rw [hLL, hN] at hl2
      (try dsimp only at HX)
      clear hx hb ho hLL hS0 hN
      go_upto_region 5 with fail
      refine region_goes (n := 8) (fun w' => Bk w' wr.heap.size 56 #[.string xs, .int .i64 xa, .int .i64 xb, .int .i64 xc] ∧ Below w.heap.size w w') [] (by kernel_rfl) rfl ?_
      have hb0 := HB.out
      refine goes_takeE (i := 0) (E := []) (v := .pointer (some ⟨wr.heap.size, 0, none⟩)) rfl (by kernel_rfl) rfl (fun _ _ _ h => h) (by intro w' hw'; obtain ⟨z0, z1, z2, z3⟩ := hw'.1.fourc; go_simp) (by exact ⟨(by repeat (first | with_reducible assumption | with_reducible exact Bk.at_ (by first | (simp; done) | omega) | with_reducible refine Bk.alloc ?_ _ | with_reducible refine Bk.drew ?_ | with_reducible refine Bk.drewN ?_ _ | with_reducible refine Bk.step (by with_reducible assumption) ?_ (by first | omega | (simp <;> omega)))), (by repeat (first | with_reducible exact Below.refl _ _ | with_reducible assumption | with_reducible refine Below.drew ?_ | with_reducible refine Below.drewN ?_ _ | with_reducible refine Below.alloc2 ?_ _ | with_reducible refine Below.alloc ?_ (by first | omega | (simp <;> omega)) _ | with_reducible refine Below.setCell ?_ (by first | omega | (simp <;> omega)) _ | with_reducible refine Below.step2 (by with_reducible assumption) ?_ | with_reducible refine Below.step (by with_reducible assumption) ?_ (by first | omega | (simp <;> omega))))⟩) ?_
      refine goes_takeE (i := 1) (E := []) (v := .string xs) rfl (by kernel_rfl) rfl (fun _ _ _ h => h) (by intro w' hw'; obtain ⟨z0, z1, z2, z3⟩ := hw'.1.fourc; go_simp) (by exact ⟨(by repeat (first | with_reducible assumption | with_reducible exact Bk.at_ (by first | (simp; done) | omega) | with_reducible refine Bk.alloc ?_ _ | with_reducible refine Bk.drew ?_ | with_reducible refine Bk.drewN ?_ _ | with_reducible refine Bk.step (by with_reducible assumption) ?_ (by first | omega | (simp <;> omega)))), (by repeat (first | with_reducible exact Below.refl _ _ | with_reducible assumption | with_reducible refine Below.drew ?_ | with_reducible refine Below.drewN ?_ _ | with_reducible refine Below.alloc2 ?_ _ | with_reducible refine Below.alloc ?_ (by first | omega | (simp <;> omega)) _ | with_reducible refine Below.setCell ?_ (by first | omega | (simp <;> omega)) _ | with_reducible refine Below.step2 (by with_reducible assumption) ?_ | with_reducible refine Below.step (by with_reducible assumption) ?_ (by first | omega | (simp <;> omega))))⟩) ?_
      refine goes_takeE (i := 2) (E := []) (v := .slice A n c) rfl (by kernel_rfl) rfl (fun _ _ _ h => h) (by intro w' hw'; obtain ⟨z0, z1, z2, z3⟩ := hw'.1.fourc; go_simp) (by exact ⟨(by repeat (first | with_reducible assumption | with_reducible exact Bk.at_ (by first | (simp; done) | omega) | with_reducible refine Bk.alloc ?_ _ | with_reducible refine Bk.drew ?_ | with_reducible refine Bk.drewN ?_ _ | with_reducible refine Bk.step (by with_reducible assumption) ?_ (by first | omega | (simp <;> omega)))), (by repeat (first | with_reducible exact Below.refl _ _ | with_reducible assumption | with_reducible refine Below.drew ?_ | with_reducible refine Below.drewN ?_ _ | with_reducible refine Below.alloc2 ?_ _ | with_reducible refine Below.alloc ?_ (by first | omega | (simp <;> omega)) _ | with_reducible refine Below.setCell ?_ (by first | omega | (simp <;> omega)) _ | with_reducible refine Below.step2 (by with_reducible assumption) ?_ | with_reducible refine Below.step (by with_reducible assumption) ?_ (by first | omega | (simp <;> omega))))⟩) ?_
      refine goes_takeE (i := 3) (E := []) (v := .int .i64 day) rfl (by kernel_rfl) rfl (fun _ _ _ h => h) (by intro w' hw'; obtain ⟨z0, z1, z2, z3⟩ := hw'.1.fourc; go_simp) (by exact ⟨(by repeat (first | with_reducible assumption | with_reducible exact Bk.at_ (by first | (simp; done) | omega) | with_reducible refine Bk.alloc ?_ _ | with_reducible refine Bk.drew ?_ | with_reducible refine Bk.drewN ?_ _ | with_reducible refine Bk.step (by with_reducible assumption) ?_ (by first | omega | (simp <;> omega)))), (by repeat (first | with_reducible exact Below.refl _ _ | with_reducible assumption | with_reducible refine Below.drew ?_ | with_reducible refine Below.drewN ?_ _ | with_reducible refine Below.alloc2 ?_ _ | with_reducible refine Below.alloc ?_ (by first | omega | (simp <;> omega)) _ | with_reducible refine Below.setCell ?_ (by first | omega | (simp <;> omega)) _ | with_reducible refine Below.step2 (by with_reducible assumption) ?_ | with_reducible refine Below.step (by with_reducible assumption) ?_ (by first | omega | (simp <;> omega))))⟩) ?_
      refine goes_takeE (i := 7) (E := []) (v := .int .i64 0) rfl (by kernel_rfl) rfl (fun _ _ _ h => h) (by intro w' hw'; obtain ⟨z0, z1, z2, z3⟩ := hw'.1.fourc; go_simp) (by exact ⟨(by repeat (first | with_reducible assumption | with_reducible exact Bk.at_ (by first | (simp; done) | omega) | with_reducible refine Bk.alloc ?_ _ | with_reducible refine Bk.drew ?_ | with_reducible refine Bk.drewN ?_ _ | with_reducible refine Bk.step (by with_reducible assumption) ?_ (by first | omega | (simp <;> omega)))), (by repeat (first | with_reducible exact Below.refl _ _ | with_reducible assumption | with_reducible refine Below.drew ?_ | with_reducible refine Below.drewN ?_ _ | with_reducible refine Below.alloc2 ?_ _ | with_reducible refine Below.alloc ?_ (by first | omega | (simp <;> omega)) _ | with_reducible refine Below.setCell ?_ (by first | omega | (simp <;> omega)) _ | with_reducible refine Below.step2 (by with_reducible assumption) ?_ | with_reducible refine Below.step (by with_reducible assumption) ?_ (by first | omega | (simp <;> omega))))⟩) ?_
      clear hb0
      refine goes_call (i := 4) rfl (by kernel_rfl) ?_
      go_wp2_with ((go_at_call 68; refine (MU.out _ (by have hb0 := HB.out; exact (by repeat (first | with_reducible exact Below.refl _ _ | with_reducible assumption | with_reducible refine Below.drew ?_ | with_reducible refine Below.drewN ?_ _ | with_reducible refine Below.alloc2 ?_ _ | with_reducible refine Below.alloc ?_ (by first | omega | (simp <;> omega)) _ | with_reducible refine Below.setCell ?_ (by first | omega | (simp <;> omega)) _ | with_reducible refine Below.step2 (by with_reducible assumption) ?_ | with_reducible refine Below.step (by with_reducible assumption) ?_ (by first | omega | (simp <;> omega)))))).mono ?_; rintro e w2 ⟨hb2, rfl⟩; have HK2 : Hid (Bk w2 wr.heap.size 56 #[.string xs, .int .i64 xa, .int .i64 xb, .int .i64 xc]) := Lib.hid (by exact (by repeat (first | with_reducible assumption | with_reducible exact Bk.at_ (by first | (simp; done) | omega) | with_reducible refine Bk.alloc ?_ _ | with_reducible refine Bk.drew ?_ | with_reducible refine Bk.drewN ?_ _ | with_reducible refine Bk.step (by with_reducible assumption) ?_ (by first | omega | (simp <;> omega))))); have HB2 : Hid (Below w.heap.size w w2) := Lib.hid (by have hb0 := HB.out; exact (by repeat (first | with_reducible exact Below.refl _ _ | with_reducible assumption | with_reducible refine Below.drew ?_ | with_reducible refine Below.drewN ?_ _ | with_reducible refine Below.alloc2 ?_ _ | with_reducible refine Below.alloc ?_ (by first | omega | (simp <;> omega)) _ | with_reducible refine Below.setCell ?_ (by first | omega | (simp <;> omega)) _ | with_reducible refine Below.step2 (by with_reducible assumption) ?_ | with_reducible refine Below.step (by with_reducible assumption) ?_ (by first | omega | (simp <;> omega))))); have HS2 : Hid (Below wr.heap.size wr w2) := Lib.hid (by exact (by repeat (first | with_reducible exact Below.refl _ _ | with_reducible assumption | with_reducible refine Below.drew ?_ | with_reducible refine Below.drewN ?_ _ | with_reducible refine Below.alloc2 ?_ _ | with_reducible refine Below.alloc ?_ (by first | omega | (simp <;> omega)) _ | with_reducible refine Below.setCell ?_ (by first | omega | (simp <;> omega)) _ | with_reducible refine Below.step2 (by with_reducible assumption) ?_ | with_reducible refine Below.step (by with_reducible assumption) ?_ (by first | omega | (simp <;> omega))))); clear hb2))
      refine behind_ok ⟨⟨HK2.out, HB2.out⟩, ?_⟩
      refine goes_call (i := 5) rfl (by kernel_rfl) ?_
      go_wp2_with ((go_at_call 60; refine (LOX.out _ HB2.out).mono ?_; rintro e w3 ⟨hb3, v, rfl, hown⟩; obtain ⟨A1, cl, rfl, hr⟩ := Rws.of_own hown HNL.out; have HR3 := Lib.hid hown; have HLB : Hid (∀ q, (Value.slice A1 N cl).ownBlock = some q → w2.heap.size ≤ q ∧ q < w3.heap.size) := Lib.hid (fun q hq => hown.lt q hq); have oz23 := hb3.size; have HK3 : Hid (Bk w3 wr.heap.size 56 #[.string xs, .int .i64 xa, .int .i64 xb, .int .i64 xc]) := Lib.hid (HK2.out.below hb3 HK2.out.lt); have HO3 := Lib.hid (own_step HO.out (Below.step2 hb3 HS2.out)); have HB3 : Hid (Below w.heap.size w w3) := Lib.hid (Below.step2 hb3 HB2.out); clear hr hown hb3))
      refine behind_ok ⟨⟨HK3.out, HB3.out⟩, ?_⟩
      refine goes_call (i := 6) rfl (by kernel_rfl) ?_
      go_wp2
      refine behind_ok ⟨⟨HK3.out, HB3.out⟩, ?_⟩
      refine goes_done (by kernel_rfl) ?_
      go_wp2
      obtain ⟨wq, rfl⟩ : ∃ x, x = wr := ⟨_, rfl⟩
      go_loopw [7, 11, 25] (fun vo _ q wi => ∃ j : Nat, j ≤ N ∧ q = .int .i64 j ∧ wi.ownsRow w.heap.size 85 4 vo (S0 ++ chgL day ⟨xs, xa, xb, xc⟩ (LL.take j)).length ((S0 ++ chgL day ⟨xs, xa, xb, xc⟩ (LL.take j)).flatMap Q4.cs) ∧ Bk wi wq.heap.size 56 #[.string xs, .int .i64 xa, .int .i64 xb, .int .i64 xc] ∧ Hid (∀ q, vo.ownBlock = some q → q < wq.heap.size ∨ w3.heap.size ≤ q) ∧ wi.ownsRow w2.heap.size 54 5 (.slice A1 N cl) N (LL.flatMap Lt.cs) ∧ w3.heap.size ≤ wi.heap.size ∧ Below w.heap.size w wi) (fun _ _ q _ => N - (intOf q).toNat)
      case atStart =>
        refine ⟨0, Nat.zero_le _, rfl, ?_, HK3.out, Lib.hid (fun q hq => .inl (HO.out.lt q hq).2), HR3.out, Nat.le_refl _, HB3.out⟩
        have := HO3.out
        rw [HS0.out] at this
        simpa [chgL] using this
      case round =>
        obtain ⟨j, hj, rfl, hoi, hki, HFI, hli, hzi, hbi⟩ := hrel
        have HBI := Lib.hid hbi
        have HLI := Lib.hid hli
        have HGQ : Hid (wq.heap.size < w2.heap.size) := Lib.hid HK2.out.lt
        have HOI := Lib.hid hoi
        have HKI := Lib.hid hki
        have owi := hbi.size
        have oli := hki.lt
        obtain ⟨q0, q1, q2, q3⟩ := hki.fourc
        by_cases hjn : j < N
        · have hrows := rws_own hli HNL.out
          have hcap3 := hrows.cap
          have hmax3 := hrows.max
          obtain ⟨b2, o2, ⟨yp, yn, yi, yd, yo⟩, rfl, hb2, hy, e0, e1, e2, e3, e4⟩ := hrows.lt hjn
          dsimp only at e0 e1 e2 e3 e4
          have HY := Lib.hid (HOX.out _ (List.mem_of_getElem? hy))
          have hstep := chgL_step hy day ⟨xs, xa, xb, xc⟩
          obtain ⟨⟨us, ua, ub, uc⟩, hU⟩ : ∃ U, chg day ⟨xs, xa, xb, xc⟩ ⟨yp, yn, yi, yd, yo⟩ = U := ⟨_, rfl⟩
          have CH : Hid (∀ W, Calls Try.prog 78 #[.agg #[.string xs, .int .i64 xa, .int .i64 xb, .int .i64 xc], .agg #[.string yp, .int .i64 yn, .int .i64 yi, .int .i64 yd, .int .i64 yo], .int .i64 day] W fun e w' => Below W.heap.size W w' ∧ e = .returned (.agg #[.string us, .int .i64 ua, .int .i64 ub, .int .i64 uc])) := Lib.hid fun W => by
            have := chargeOf_any xs yp xa xb xc yn yi yd yo day W HY.out hday.2 HTX.out
            rwa [hU] at this
          rw [hU] at hstep
          have HSL : Hid ((S0 ++ chgL day ⟨xs, xa, xb, xc⟩ (LL.take j)).length ≤ 30000) := Lib.hid (by
            rw [List.length_append]
            unfold chgL
            rw [List.length_map, List.length_take]
            omega)
          have HST : Hid (S0 ++ chgL day ⟨xs, xa, xb, xc⟩ (LL.take (j + 1)) = S0 ++ chgL day ⟨xs, xa, xb, xc⟩ (LL.take j) ++ [⟨us, ua, ub, uc⟩]) := Lib.hid (by rw [hstep, List.append_assoc])
          have y1 : (0 : Int) ≤ (j : Int) := by omega
          have y2 : (j : Int) < (N : Int) := by omega
          obtain ⟨SS, hSS⟩ : ∃ SS, S0 ++ chgL day ⟨xs, xa, xb, xc⟩ (LL.take j) = SS := ⟨_, rfl⟩
          rw [hSS] at HSL HST HOI
          clear hrows hy hU hstep hbi hli hoi hki hSS
          go_wp2_with (first
            | (at_builtin; go_loud (refine app_ch (W := SS) (base := w.heap.size) (vw := u7) ?_ rfl _ _ rfl rfl ⟨us, ua, ub, uc⟩ _ rfl ?_ HSL.out ?_ ?_; (focus (have hx5 := HX5.out; exact own_step HOI.out (by exact (by repeat (first | with_reducible exact Below.refl _ _ | with_reducible assumption | with_reducible refine Below.drew ?_ | with_reducible refine Below.drewN ?_ _ | with_reducible refine Below.alloc2 ?_ _ | with_reducible refine Below.alloc ?_ (by first | omega | (simp <;> omega)) _ | with_reducible refine Below.setCell ?_ (by first | omega | (simp <;> omega)) _ | with_reducible refine Below.step2 (by with_reducible assumption) ?_ | with_reducible refine Below.step (by with_reducible assumption) ?_ (by first | omega | (simp <;> omega))))))); (focus (show Bk _ _ _ #[.string us, .int .i64 ua, .int .i64 ub, .int .i64 uc]; exact (by repeat (first | with_reducible assumption | with_reducible exact Bk.at_ (by first | (simp; done) | omega) | with_reducible refine Bk.alloc ?_ _ | with_reducible refine Bk.drew ?_ | with_reducible refine Bk.drewN ?_ _ | with_reducible refine Bk.step (by with_reducible assumption) ?_ (by first | omega | (simp <;> omega)))))); (focus (have := HBI.out.size; have := HX5.out.size; (try simp); omega)); intro v6 w6 ho6 hg6 ha6; have HO6 := Lib.hid ho6; have HG6 := Lib.hid hg6; have HA6 := Lib.hid ha6; clear ho6 hg6 ha6))
            | (go_at_call 78; refine (CH.out _).mono ?_; rintro e w5 ⟨hb5, rfl⟩; have oz5 := hb5.size; (try simp at oz5); have HX5 : Hid (Below wr.heap.size wr w5) := Lib.hid (by exact (by repeat (first | with_reducible exact Below.refl _ _ | with_reducible assumption | with_reducible refine Below.drew ?_ | with_reducible refine Below.drewN ?_ _ | with_reducible refine Below.alloc2 ?_ _ | with_reducible refine Below.alloc ?_ (by first | omega | (simp <;> omega)) _ | with_reducible refine Below.setCell ?_ (by first | omega | (simp <;> omega)) _ | with_reducible refine Below.step2 (by with_reducible assumption) ?_ | with_reducible refine Below.step (by with_reducible assumption) ?_ (by first | omega | (simp <;> omega))))); have HK5 : Hid (Bk w5 wq.heap.size 56 #[.string xs, .int .i64 xa, .int .i64 xb, .int .i64 xc]) := Lib.hid (by have hk0 := HKI.out; exact (by repeat (first | with_reducible assumption | with_reducible exact Bk.at_ (by first | (simp; done) | omega) | with_reducible refine Bk.alloc ?_ _ | with_reducible refine Bk.drew ?_ | with_reducible refine Bk.drewN ?_ _ | with_reducible refine Bk.step (by with_reducible assumption) ?_ (by first | omega | (simp <;> omega))))); clear hb5))
          go_roundw
          case rel =>
            have hb0 := HBI.out
            have hx5 := HX5.out
            have hk5 := HK5.out
            have hg6 := HG6.out
            have ho5 := hx5.size
            refine ⟨j + 1, by omega, by go_num, ?_, ?_, ?_, ?_, ?_, ?_⟩
            · rw [HST.out]
              exact HO6.out
            · refine (hg6.block _ ?_ ?_).trans (show Bk _ wq.heap.size 56 #[.string xs, .int .i64 xa, .int .i64 xb, .int .i64 xc] by exact (by repeat (first | with_reducible assumption | with_reducible exact Bk.at_ (by first | (simp; done) | omega) | with_reducible refine Bk.alloc ?_ _ | with_reducible refine Bk.drew ?_ | with_reducible refine Bk.drewN ?_ _ | with_reducible refine Bk.step (by with_reducible assumption) ?_ (by first | omega | (simp <;> omega)))))
              · have := hk5.lt
                (try simp)
                omega
              · intro e
                have := HFI.out _ e.symm
                have := HGQ.out
                omega
            · refine Lib.hid fun q hq => ?_
              rcases HA6.out with e | e
              · exact HFI.out q (e ▸ hq)
              · rw [e] at hq
                cases hq
                right
                (try simp)
                omega
            · refine kept_far (own_step HLI.out (show Below wr.heap.size wr _ by exact (by repeat (first | with_reducible exact Below.refl _ _ | with_reducible assumption | with_reducible refine Below.drew ?_ | with_reducible refine Below.drewN ?_ _ | with_reducible refine Below.alloc2 ?_ _ | with_reducible refine Below.alloc ?_ (by first | omega | (simp <;> omega)) _ | with_reducible refine Below.setCell ?_ (by first | omega | (simp <;> omega)) _ | with_reducible refine Below.step2 (by with_reducible assumption) ?_ | with_reducible refine Below.step (by with_reducible assumption) ?_ (by first | omega | (simp <;> omega)))))) hg6 fun q hv e => ?_
              have h1 := HLB.out q hv
              have h2 := HFI.out q e
              have := HGQ.out
              omega
            · have := hg6.size
              (try simp at this)
              omega
            · exact Below.grown_ (D := w.heap.size) (by exact (by repeat (first | with_reducible exact Below.refl _ _ | with_reducible assumption | with_reducible refine Below.drew ?_ | with_reducible refine Below.drewN ?_ _ | with_reducible refine Below.alloc2 ?_ _ | with_reducible refine Below.alloc ?_ (by first | omega | (simp <;> omega)) _ | with_reducible refine Below.setCell ?_ (by first | omega | (simp <;> omega)) _ | with_reducible refine Below.step2 (by with_reducible assumption) ?_ | with_reducible refine Below.step (by with_reducible assumption) ?_ (by first | omega | (simp <;> omega))))) hg6 (by have := hb0.size; (try simp); omega) (fun q hq => (HOI.out.lt q hq).1)
          case measure => simp [intOf]; omega
        · have e : j = N := by omega
          subst e
          clear hbi hli hoi hki
          go_wp2
          refine ⟨⟨k + 1, by omega, by go_num, ?_, HBI.out⟩, by simp [intOf]; omega⟩
          have := HOI.out
          rw [List.take_of_length_le (by rw [HNL.out]; exact Nat.le_refl _)] at this
          rw [HX.out, HLL.out, HS0.out]
          exact this
    · go_wp2
      go_ret
      rw [List.take_of_length_le (by rw [HLT.out]; omega)] at HO
      exact ⟨HB.out, _, rfl, HO.out⟩

end Go.Proofs.Ytbeijeblbchglaa
