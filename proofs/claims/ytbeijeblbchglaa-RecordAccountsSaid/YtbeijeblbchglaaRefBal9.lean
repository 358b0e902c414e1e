/- Chapter 9, walks: Balance of the reference; equal accounts. -/
import Derived.Test.YtbeijeblbchglaaBalB9
namespace Go.Proofs.Ytbeijeblbchglaa
open Go.RowKit Go.WideShapes Go.Deep

set_option maxRecDepth 100000 in
set_option maxHeartbeats 8000000 in
theorem refBalance_any (T A : Option Addr) (tn tc n c : Nat) (t : List Q4) (l : List Mv) (day : Int) (w : World) (ht : Rws Q4.cs 4 w w.heap.size T tn tc t) (h : Rws Mv.cs 4 w w.heap.size A n c l) (hg : Good t l) :
    Calls Try.prog 37 #[.slice T tn tc, .slice A n c, .int .i64 day] w fun e w' => Below w.heap.size w w' ∧ ∃ v, e = .returned v ∧ w'.ownsRow w.heap.size 73 4 v (bals t (upM l day)).length ((bals t (upM l day)).flatMap B4.cs) := by
  have hcap := ht.cap
  have hmax := ht.max
  have HLT := Lib.hid ht.len
  have htn : tn ≤ 60 := by rw [← ht.len]; exact hg.tn
  have hfil : l.filter (dayF day) = upM l day := hg.filter day
  have hgu := hg.up day
  obtain ⟨L, hL⟩ : ∃ L, upM l day = L := ⟨_, rfl⟩
  rw [hL] at hfil hgu ⊢
  obtain ⟨UL, hUL⟩ : ∃ UL, L.length = UL := ⟨_, rfl⟩
  have HUL := Lib.hid hUL
  have UP : Hid (Calls Try.prog 44 #[.slice A n c, .int .i64 day] w fun e w' => Below w.heap.size w w' ∧ ∃ v, e = .returned v ∧ w'.ownsRow w.heap.size 90 4 v UL (L.flatMap Mv.cs)) := Lib.hid (by
    have := refUpto_any A n c l day w h (by rw [← h.len]; exact hg.ln)
    rwa [hfil, hUL] at this)
  have CN : Hid (∀ A c p W, Rws Mv.cs 4 W W.heap.size A UL c L → Calls Try.prog 29 #[.slice A UL c, .string p] W fun e w' => Below W.heap.size W w' ∧ e = .returned (.agg #[.int .i64 (cnt 0 L p), .int .i64 (cnt 1 L p), .int .i64 (cnt 2 L p)])) := Lib.hid fun A c p W hr =>
    counts_any A UL c L p W hr hgu.ok (by rw [← hUL]; exact hgu.ln)
  have HBD : Hid (∀ k p, 0 ≤ cnt k L p ∧ cnt k L p ≤ 30000000) := Lib.hid fun k p => by
    have := cnt_bd L k p hgu.ok
    have h2 := hgu.ln
    omega
  have HSK : Hid (∀ p, stock L p = cnt 0 L p - cnt 1 L p - cnt 2 L p) := Lib.hid fun p => stock_cnt L p hgu.ok
  have HT : Hid (∀ w', Below w.heap.size w w' → Rws Q4.cs 4 w' w.heap.size T tn tc t) := fun w' hb => ht.below hb (Nat.le_refl _) (Nat.le_refl _)
  clear ht h hg hgu hfil hL hUL
  go_enter Try.func37, Try.ntmps37
  go_wp2_with (first | (go_at_call 44; refine UP.out.mono ?_; rintro e w2 ⟨hb2, v, rfl, hown⟩; obtain ⟨A2, cu, rfl, hr⟩ := Rws.of_own hown HUL.out; have HR2 := Lib.hid hr; have HB2 := Lib.hid hb2; have ow2 := hb2.size; clear hown hr hb2))
  go_loopw [7, 8, 9] (fun vo i _ wr => ∃ k : Nat, k ≤ tn ∧ i = .int .i64 k ∧ wr.ownsRow w2.heap.size 73 4 vo (bals (t.take k) L).length ((bals (t.take k) L).flatMap B4.cs) ∧ Below w2.heap.size w2 wr ∧ Below w.heap.size w wr) (fun _ i _ _ => tn - (intOf i).toNat)
  case atStart => exact ⟨0, Nat.zero_le _, rfl, World.ownsRow_nil _ _ _ _, Below.refl _ _, HB2.out⟩
  case round =>
    obtain ⟨k, hk, rfl, ho, hc, hb⟩ := hrel
    have HB := Lib.hid hb
    have HC := Lib.hid hc
    have HO := Lib.hid ho
    have ow := hc.size
    by_cases hlt : k < tn
    · obtain ⟨b, o, ⟨xs, xa, xb, xc⟩, rfl, hbb, hx, c0, c1, c2, c3⟩ := (HT.out _ hb).q4 hlt
      dsimp only at c0 c1 c2 c3
      have hstep := bals_step hx L
      have z1 : (0 : Int) ≤ (k : Int) := by omega
      have z2 : (k : Int) < (tn : Int) := by omega
      have ob : b < wr.heap.size := by have := hb.size; omega
      have HSL : Hid ((bals (t.take k) L).length ≤ 30000) := Lib.hid (by
        unfold bals
        rw [List.length_map, List.length_take]
        omega)
      have b0 := HBD.out 0 xs
      have b1 := HBD.out 1 xs
      have b2 := HBD.out 2 xs
      have hsk := HSK.out xs
      have CNX : Hid (∀ W, Below w2.heap.size w2 W → Calls Try.prog 29 #[.slice A2 UL cu, .string xs] W fun e w' => Below W.heap.size W w' ∧ e = .returned (.agg #[.int .i64 (cnt 0 L xs), .int .i64 (cnt 1 L xs), .int .i64 (cnt 2 L xs)])) := Lib.hid fun W hW =>
        CN.out _ _ xs W (HR2.out.below hW (Nat.le_refl _) hW.size)
      obtain ⟨C0, hC0⟩ : ∃ C, cnt 0 L xs = C := ⟨_, rfl⟩
      obtain ⟨C1, hC1⟩ : ∃ C, cnt 1 L xs = C := ⟨_, rfl⟩
      obtain ⟨C2, hC2⟩ : ∃ C, cnt 2 L xs = C := ⟨_, rfl⟩
      have hY : balP L xs = ⟨C0, C1, C2, C0 - C1 - C2⟩ := by unfold balP; rw [hsk, hC0, hC1, hC2]
      rw [hC0, hC1, hC2] at CNX
      rw [hC0] at b0
      rw [hC1] at b1
      rw [hC2] at b2
      obtain ⟨V, hV⟩ : ∃ V, C0 - C1 - C2 = V := ⟨_, rfl⟩
      have hw1 : IntKind.i64.wrap (C0 - C1) = C0 - C1 := IntWalk.i64_in _ (by omega)
      have hw2 : IntKind.i64.wrap (C0 - C1 - C2) = V := by rw [hV]; exact IntWalk.i64_in _ (by omega)
      rw [hY, hV] at hstep
      obtain ⟨SS, hSS⟩ : ∃ S, bals (t.take k) L = S := ⟨_, rfl⟩
      rw [hSS] at HSL HO hstep
      have HST := Lib.hid hstep
      clear hx hb hc ho hY hSS hstep hV hC0 hC1 hC2 hsk b0 b1 b2
      go_wp2_with (first
        | (at_builtin; go_loud (refine app_b4 (W := SS) (base := w2.heap.size) (vw := u7) ?_ rfl _ _ rfl rfl ⟨C0, C1, C2, V⟩ _ rfl ?_ HSL.out ?_ ?_; (focus (have hx5 := HX5.out; exact own_step HO.out (by exact (by repeat (first | with_reducible exact Below.refl _ _ | with_reducible assumption | with_reducible refine Below.drew ?_ | with_reducible refine Below.drewN ?_ _ | with_reducible refine Below.alloc2 ?_ _ | with_reducible refine Below.alloc ?_ (by first | omega | (simp <;> omega)) _ | with_reducible refine Below.setCell ?_ (by first | omega | (simp <;> omega)) _ | with_reducible refine Below.step2 (by with_reducible assumption) ?_ | with_reducible refine Below.step (by with_reducible assumption) ?_ (by first | omega | (simp <;> omega))))))); (focus (show Bk _ _ _ #[.int .i64 C0, .int .i64 C1, .int .i64 C2, .int .i64 V]; exact (by repeat (first | with_reducible assumption | with_reducible exact Bk.at_ (by first | (simp; done) | omega) | with_reducible refine Bk.alloc ?_ _ | with_reducible refine Bk.drew ?_ | with_reducible refine Bk.drewN ?_ _ | with_reducible refine Bk.step (by with_reducible assumption) ?_ (by first | omega | (simp <;> omega)))))); (focus (have := HX5.out.size; have := HC.out.size; (try simp); omega)); intro v6 w6 ho6 hg6; have HO6 := Lib.hid ho6; have HG6 := Lib.hid hg6; clear ho6 hg6))
        | (go_at_call 29; refine (CNX.out _ (by have hc0 := HC.out; exact (by repeat (first | with_reducible exact Below.refl _ _ | with_reducible assumption | with_reducible refine Below.drew ?_ | with_reducible refine Below.drewN ?_ _ | with_reducible refine Below.alloc2 ?_ _ | with_reducible refine Below.alloc ?_ (by first | omega | (simp <;> omega)) _ | with_reducible refine Below.setCell ?_ (by first | omega | (simp <;> omega)) _ | with_reducible refine Below.step2 (by with_reducible assumption) ?_ | with_reducible refine Below.step (by with_reducible assumption) ?_ (by first | omega | (simp <;> omega)))))).mono ?_; rintro e w5 ⟨hb5, rfl⟩; have HX5 : Hid (Below wr.heap.size wr w5) := Lib.hid (by exact (by repeat (first | with_reducible exact Below.refl _ _ | with_reducible assumption | with_reducible refine Below.drew ?_ | with_reducible refine Below.drewN ?_ _ | with_reducible refine Below.alloc2 ?_ _ | with_reducible refine Below.alloc ?_ (by first | omega | (simp <;> omega)) _ | with_reducible refine Below.setCell ?_ (by first | omega | (simp <;> omega)) _ | with_reducible refine Below.step2 (by with_reducible assumption) ?_ | with_reducible refine Below.step (by with_reducible assumption) ?_ (by first | omega | (simp <;> omega))))); have oz5 := HX5.out.size; clear hb5))
      go_roundw
      case rel =>
        have hb0 := HB.out
        have hc0 := HC.out
        have hx5 := HX5.out
        refine ⟨k + 1, by omega, by go_num, ?_, ?_, ?_⟩
        · rw [HST.out]
          exact HO6.out
        · exact Below.grown_ (D := w2.heap.size) (by exact (by repeat (first | with_reducible exact Below.refl _ _ | with_reducible assumption | with_reducible refine Below.drew ?_ | with_reducible refine Below.drewN ?_ _ | with_reducible refine Below.alloc2 ?_ _ | with_reducible refine Below.alloc ?_ (by first | omega | (simp <;> omega)) _ | with_reducible refine Below.setCell ?_ (by first | omega | (simp <;> omega)) _ | with_reducible refine Below.step2 (by with_reducible assumption) ?_ | with_reducible refine Below.step (by with_reducible assumption) ?_ (by first | omega | (simp <;> omega))))) HG6.out (by (try simp); omega) (fun q hq => (HO.out.lt q hq).1)
        · exact Below.grown_ (D := w.heap.size) (by exact (by repeat (first | with_reducible exact Below.refl _ _ | with_reducible assumption | with_reducible refine Below.drew ?_ | with_reducible refine Below.drewN ?_ _ | with_reducible refine Below.alloc2 ?_ _ | with_reducible refine Below.alloc ?_ (by first | omega | (simp <;> omega)) _ | with_reducible refine Below.setCell ?_ (by first | omega | (simp <;> omega)) _ | with_reducible refine Below.step2 (by with_reducible assumption) ?_ | with_reducible refine Below.step (by with_reducible assumption) ?_ (by first | omega | (simp <;> omega))))) HG6.out (by have := hb0.size; (try simp); omega) (fun q hq => by have := (HO.out.lt q hq).1; omega)
      case measure => simp [intOf]; omega
    · have HOE : Hid (wr.ownsRow w.heap.size 73 4 u7 (bals t L).length ((bals t L).flatMap B4.cs)) := Lib.hid (by
        have := own_base ho HB2.out.size
        rwa [List.take_of_length_le (by rw [HLT.out]; omega)] at this)
      clear hb hc ho
      go_wp2
      go_ret
      exact ⟨HB.out, _, rfl, HOE.out⟩

set_option maxRecDepth 100000 in
set_option maxHeartbeats 2000000 in
theorem sameCharges_eq (A A2 : Option Addr) (n c c2 : Nat) (l : List Q4) (w : World) (h : Rws Q4.cs 4 w w.heap.size A n c l) (h2 : Rws Q4.cs 4 w w.heap.size A2 n c2 l) :
    Calls Try.prog 38 #[.slice A n c, .slice A2 n c2] w fun e w' => Below w.heap.size w w' ∧ e = .returned (.bool true) := by
  have hcap := h.cap
  have hmax := h.max
  have hcap2 := h2.cap
  have hmax2 := h2.max
  have H : Hid (∀ w', Below w.heap.size w w' → Rws Q4.cs 4 w' w.heap.size A n c l) := fun w' hb => h.below hb (Nat.le_refl _) (Nat.le_refl _)
  have H2 : Hid (∀ w', Below w.heap.size w w' → Rws Q4.cs 4 w' w.heap.size A2 n c2 l) := fun w' hb => h2.below hb (Nat.le_refl _) (Nat.le_refl _)
  clear h h2
  go_enter Try.func38, Try.ntmps38
  go_wp2
  go_loopw [5] (fun i wr => ∃ k : Nat, k ≤ n ∧ i = .int .i64 k ∧ Below w.heap.size w wr) (fun i _ => n - (intOf i).toNat)
  case atStart => exact ⟨0, Nat.zero_le _, rfl, (by repeat (first | with_reducible exact Below.refl _ _ | with_reducible assumption | with_reducible refine Below.drew ?_ | with_reducible refine Below.drewN ?_ _ | with_reducible refine Below.alloc2 ?_ _ | with_reducible refine Below.alloc ?_ (by first | omega | (simp <;> omega)) _ | with_reducible refine Below.setCell ?_ (by first | omega | (simp <;> omega)) _ | with_reducible refine Below.step2 (by with_reducible assumption) ?_ | with_reducible refine Below.step (by with_reducible assumption) ?_ (by first | omega | (simp <;> omega))))⟩
  case round =>
    obtain ⟨k, hk, rfl, hb⟩ := hrel
    have HB := Lib.hid hb
    have ow := hb.size
    by_cases hlt : k < n
    · obtain ⟨b, o, ⟨xp, xn, xi, xd⟩, rfl, hbb, hx, c0, c1, c2, c3⟩ := (H.out _ hb).q4 hlt
      obtain ⟨b2, o2, x2, rfl, hbb2, hx2, d0, d1, d2, d3⟩ := (H2.out _ hb).q4 hlt
      obtain rfl : x2 = ⟨xp, xn, xi, xd⟩ := by rw [hx] at hx2; exact (Option.some.inj hx2).symm
      dsimp only at c0 c1 c2 c3 d0 d1 d2 d3
      have z1 : (0 : Int) ≤ (k : Int) := by omega
      have z2 : (k : Int) < (n : Int) := by omega
      clear hx hx2 hb
      go_wp2
      go_quiet (fail)
      go_wp2
      go_roundw
      case rel =>
        have hb0 := HB.out
        exact ⟨k + 1, by omega, by go_num, (by repeat (first | with_reducible exact Below.refl _ _ | with_reducible assumption | with_reducible refine Below.drew ?_ | with_reducible refine Below.drewN ?_ _ | with_reducible refine Below.alloc2 ?_ _ | with_reducible refine Below.alloc ?_ (by first | omega | (simp <;> omega)) _ | with_reducible refine Below.setCell ?_ (by first | omega | (simp <;> omega)) _ | with_reducible refine Below.step2 (by with_reducible assumption) ?_ | with_reducible refine Below.step (by with_reducible assumption) ?_ (by first | omega | (simp <;> omega))))⟩
      case measure => simp [intOf]; omega
    · go_wp2
      go_ret
      exact ⟨HB.out, rfl⟩

end Go.Proofs.Ytbeijeblbchglaa
