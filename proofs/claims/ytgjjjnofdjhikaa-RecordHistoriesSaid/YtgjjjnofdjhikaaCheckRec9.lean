/- Chapter 9, walks: CheckRecord of the program. -/
import Derived.Test.YtgjjjnofdjhikaaEvErr9
namespace Go.Proofs.Ytgjjjnofdjhikaa
open Go.RowKit Go.Maps

/-- What the arguments' readings say of a record. -/
def evOk (x : Ev) : Prop := -9223372036854775808 ≤ x.n ∧ x.n ≤ 9223372036854775807
set_option maxRecDepth 100000 in
set_option maxHeartbeats 16000000 in
theorem checkRecord_any (A : Option Addr) (n c : Nat) (l : List Ev) (w : World) (h : Rws Ev.cs 6 w w.heap.size A n c l) (hs : ∀ x ∈ l, x.p.size ≤ 30) (ho : ∀ x ∈ l, evOk x) :
    Calls Try.prog 15 #[.slice A n c] w fun e w' => Below w.heap.size w w' ∧ e = .returned (.int .i64 (recErr l)) := by
  have hcap := h.cap
  have hmax := h.max
  have HLEN := Lib.hid h.len
  have HS := Lib.hid hs
  have HO := Lib.hid ho
  have H : Hid (∀ w', Below w.heap.size w w' → Rws Ev.cs 6 w' w.heap.size A n c l) := fun w' hb => h.below hb (Nat.le_refl _) (Nat.le_refl _)
  obtain ⟨R, hR⟩ : ∃ R, recErr l = R := ⟨_, rfl⟩
  have HR0 := Lib.hid hR
  rw [hR]
  clear hR h hs ho
  by_cases hbig : 400 < n
  · obtain rfl : R = 8 := by rw [← HR0.out, recErr, HLEN.out, if_pos hbig]
    go_enter Try.func15, Try.ntmps15
    go_wp2
    go_ret
    exact ⟨(by repeat (first | with_reducible exact Below.refl _ _ | with_reducible assumption | with_reducible refine Below.drew ?_ | with_reducible refine Below.drewN ?_ _ | with_reducible refine Below.alloc2 ?_ _ | with_reducible refine Below.alloc ?_ (by first | omega | (simp <;> omega)) _ | with_reducible refine Below.setCell ?_ (by first | omega | (simp <;> omega)) _ | with_reducible refine Below.step2 (by with_reducible assumption) ?_ | with_reducible refine Below.step (by with_reducible assumption) ?_ (by first | omega | (simp <;> omega)))), rfl⟩
  have HR : Hid (rGo [] l = R) := Lib.hid (by rw [← HR0.out, recErr, HLEN.out, if_neg hbig])
  have hmm := @run_makeMap Try.prog
  go_enter Try.func15, Try.ntmps15
  go_wp2
  go_loopw [4, 6, 7, 14] (fun d _ _ i wr => ∃ k : Nat, k ≤ n ∧ i = .int .i64 k ∧ d = .int .i64 (lastE (l.take k)) ∧ Hid (rGo [] l = rGo (l.take k) (l.drop k)) ∧ (∃ n', n' ≤ k ∧ BMap wr Try.prog 92 4 dfV dfOk w.heap.size n' (opn (l.take k))) ∧ Below w.heap.size w wr) (fun _ _ _ i _ => n - (intOf i).toNat)
  case atStart => exact ⟨0, Nat.zero_le _, rfl, rfl, Lib.hid rfl, ⟨0, Nat.le_refl _, BMap.made w⟩, (by repeat (first | with_reducible exact Below.refl _ _ | with_reducible assumption | with_reducible refine Below.drew ?_ | with_reducible refine Below.drewN ?_ _ | with_reducible refine Below.alloc2 ?_ _ | with_reducible refine Below.alloc ?_ (by first | omega | (simp <;> omega)) _ | with_reducible refine Below.setCell ?_ (by first | omega | (simp <;> omega)) _ | with_reducible refine Below.step2 (by with_reducible assumption) ?_ | with_reducible refine Below.step (by with_reducible assumption) ?_ (by first | omega | (simp <;> omega))))⟩
  case round =>
    obtain ⟨k, hk, rfl, rfl, HV, ⟨n', hn', hm⟩, hb⟩ := hrel
    have HB := Lib.hid hb
    have HM := Lib.hid hm
    have ow := hb.size
    have og := hm.lt
    clear hm
    by_cases hlt : k < n
    · obtain ⟨b, o, ⟨xd, xk, xp, xn, xs, xg⟩, rfl, hbb, hx, c0, c1, c2, c3, c4, c5⟩ := (H.out _ hb).ev hlt
      dsimp only at c0 c1 c2 c3 c4 c5
      have HX := Lib.hid hx
      have hxp : xp.size ≤ 30 := HS.out _ (List.mem_of_getElem? hx)
      have hxn := HO.out _ (List.mem_of_getElem? hx)
      obtain ⟨F, hF⟩ : ∃ F, eE (l.take k) ⟨xd, xk, xp, xn, xs, xg⟩ = F := ⟨_, rfl⟩
      obtain ⟨D, hD⟩ : ∃ D, lastE (l.take k) = D := ⟨_, rfl⟩
      have HF := Lib.hid hF
      have EE : Hid (∀ n' W, BMap W Try.prog 92 4 dfV dfOk w.heap.size n' (opn (l.take k)) → Calls Try.prog 45 #[.agg #[.int .i64 xd, .int .i64 xk, .string xp, .int .i64 xn, .bool xs, .bool xg], .int .i64 D, .map (some w.heap.size)] W fun e w' => Below W.heap.size W w' ∧ e = .returned (.int .i64 F)) := Lib.hid fun n' W hW => by
        have := eventError_any xd xk xn xp xs xg D _ _ _ W hW hxp hxn
        have e : eE (l.take k) ⟨xd, xk, xp, xn, xs, xg⟩ = eEr (dayB xd) (inR 0 6 xk) (inR 0 9999 xn) (decide (xd < D)) (platB xk xp) (plB xk xn xs xg) (decide (xk = 4) && (opn (l.take k) (xp, xn)).isSome) (decide (xk = 5) && !(opn (l.take k) (xp, xn)).isSome) := by rw [← hD]; rfl
        rwa [← e, hF] at this
      have ST : Hid (∀ W, BMap W Try.prog 92 4 dfV dfOk w.heap.size n' (opn (l.take k)) → Calls Try.prog 46 #[.map (some w.heap.size), .agg #[.int .i64 xd, .int .i64 xk, .string xp, .int .i64 xn, .bool xs, .bool xg]] W fun e w' => (∃ m, m ≤ n' + 1 ∧ BMap w' Try.prog 92 4 dfV dfOk w.heap.size m (opn (l.take (k + 1)))) ∧ W.grownBy w' (some w.heap.size) ∧ e = .returned (.tuple #[])) := Lib.hid fun W hW => by
        have := see_any xd xk xn xp xs xg _ _ _ W hW ⟨by show xp.size ≤ 1000; omega, hxn⟩ (by omega)
        rwa [opn_step hx] at this
      have HLD := Lib.hid (lastE_step hx)
      have ob : b < wr.heap.size := by omega
      rw [hD]
      clear hx hb hF hD hxn
      by_cases hf0 : F = 0
      · subst hf0
        have HNX := Lib.hid (rGo_next HX.out HV.out HF.out)
        go_wp2_with (first
          | (go_at_call 45; with_reducible refine (EE.out _ _ (HM.out.alloc _)).mono ?_; rintro e w1 ⟨hb1, rfl⟩; have hk0 : Bk (wr.alloc (.cells #[.int .i64 xd, .int .i64 xk, .string xp, .int .i64 xn, .bool xs, .bool xg] 24)) wr.heap.size 24 #[.int .i64 xd, .int .i64 xk, .string xp, .int .i64 xn, .bool xs, .bool xg] := Bk.at_ rfl; have hk1 := hk0.below hb1 hk0.lt; have hm1 := (HM.out.alloc (.cells #[.int .i64 xd, .int .i64 xk, .string xp, .int .i64 xn, .bool xs, .bool xg] 24)).below hb1; have hbw : Below w.heap.size w w1 := (HB.out.alloc HB.out.size _).trans (hb1.mono (by simp; omega)); have HB1 := Lib.hid hbw; have HM1 := Lib.hid hm1; have HK1 := Lib.hid hk1; have ol1 := hk1.lt; obtain ⟨q0, q1, q2, q3, q4, q5⟩ := hk1.sixc; clear hk0 hk1 hm1 hb1 hbw)
          | (go_at_call 46; refine (ST.out _ HM1.out).mono ?_; rintro e w2 ⟨⟨m, hm2, hmap⟩, hg2, rfl⟩; have HM2 := Lib.hid hmap; have HG2 := Lib.hid hg2; have hk2 : Bk w2 wr.heap.size 24 #[.int .i64 xd, .int .i64 xk, .string xp, .int .i64 xn, .bool xs, .bool xg] := (hg2.block _ HK1.out.lt (by simp; omega)).trans HK1.out; obtain ⟨r0, r1, r2, r3, r4, r5⟩ := hk2.sixc; clear hmap hg2 hk2))
        go_roundw
        case rel =>
          refine ⟨k + 1, by omega, by go_num, by rw [HLD.out], HNX, ⟨m, by omega, HM2.out⟩, ?_⟩
          exact Below.grown_ HB1.out HG2.out HB1.out.size (fun q hq => by cases hq; exact Nat.le_refl _)
        case measure => simp [intOf]; omega
      · have hf0b : (F != 0) = true := by simpa using hf0
        go_wp2_with (go_at_call 45; with_reducible refine (EE.out _ _ (HM.out.alloc _)).mono ?_; rintro e w1 ⟨hb1, rfl⟩; have hk0 : Bk (wr.alloc (.cells #[.int .i64 xd, .int .i64 xk, .string xp, .int .i64 xn, .bool xs, .bool xg] 24)) wr.heap.size 24 #[.int .i64 xd, .int .i64 xk, .string xp, .int .i64 xn, .bool xs, .bool xg] := Bk.at_ rfl; have hk1 := hk0.below hb1 hk0.lt; have hm1 := (HM.out.alloc (.cells #[.int .i64 xd, .int .i64 xk, .string xp, .int .i64 xn, .bool xs, .bool xg] 24)).below hb1; have hbw : Below w.heap.size w w1 := (HB.out.alloc HB.out.size _).trans (hb1.mono (by simp; omega)); have HB1 := Lib.hid hbw; have HM1 := Lib.hid hm1; have HK1 := Lib.hid hk1; have ol1 := hk1.lt; obtain ⟨q0, q1, q2, q3, q4, q5⟩ := hk1.sixc; clear hk0 hk1 hm1 hb1 hbw)
        go_ret
        refine ⟨HB1.out, ret_int ?_⟩
        rw [← HR.out]
        exact (rGo_bad HX.out HV.out HF.out hf0).symm
    · go_wp2
      go_ret
      refine ⟨HB.out, ret_int ?_⟩
      rw [← HR.out]
      exact (rGo_end (by rw [HLEN.out]; omega) HV.out).symm

end Go.Proofs.Ytgjjjnofdjhikaa
