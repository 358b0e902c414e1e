/- Chapter 8: the law YardRows, walked. -/
import Derived.Test.YtmcefodfppdajaaMoves8
import Derived.Test.YtmcefodfppdajaaRefMvs8
namespace Go.Proofs.Ytmcefodfppdajaa
open Go.RowKit Go.Deep

set_option maxRecDepth 100000 in
set_option maxHeartbeats 16000000 in
theorem lawRows_any (A A2 : Option Addr) (n ca n2 ca2 : Nat) (l : List Q4) (ms : List Mo) (w : World) (h : Rws Q4.cs 4 w w.heap.size A n ca l) (h2 : Rws Mo.cs 6 w w.heap.size A2 n2 ca2 ms) :
    Calls Try.prog 5 #[.slice A n ca, .slice A2 n2 ca2] w fun e w' => Below w.heap.size w w' ∧ e = .returned (.bool true) := by
  have hcap := h.cap
  have hmax := h.max
  have hcap2 := h2.cap
  have hmax2 := h2.max
  have HLEN2 := Lib.hid h2.len
  have H : Hid (∀ w', Below w.heap.size w w' → Rws Q4.cs 4 w' w'.heap.size A n ca l) := Lib.hid fun w' hb => h.below hb (Nat.le_refl _) hb.size
  have H2 : Hid (∀ w', Below w.heap.size w w' → Rws Mo.cs 6 w' w'.heap.size A2 n2 ca2 ms) := Lib.hid fun w' hb => h2.below hb (Nat.le_refl _) hb.size
  obtain ⟨S, hS⟩ : ∃ S, shortB l = S := ⟨_, rfl⟩
  have SH : Hid (∀ W, Below w.heap.size w W → Calls Try.prog 13 #[.slice A n ca] W fun e w' => Below W.heap.size W w' ∧ e = .returned (.bool S)) := Lib.hid fun W hW => by rw [← hS]; exact short_any A n ca l W (H.out W hW)
  cases S
  · clear h hS h2
    go_enter Try.func5, Try.ntmps5
    go_wp2_with (first | (go_at_call 12; with_reducible refine (awake_true _).mono ?_; rintro e w1 ⟨hb1, rfl⟩; have HB1 : Hid (Below w.heap.size w w1) := Lib.hid hb1; clear hb1) | (go_at_call 13; with_reducible refine (SH.out _ HB1.out).mono ?_; rintro e w2 ⟨hb2, rfl⟩; have HB2 : Hid (Below w.heap.size w w2) := Lib.hid (HB1.out.trans (hb2.mono HB1.out.size)); clear hb2))
    go_ret
    exact ⟨HB2.out, rfl⟩
  obtain ⟨-, hs⟩ := shortB_iff.1 hS
  have HSZ := Lib.hid hs
  by_cases hbig : 10 < n2
  · clear h hS hs h2
    go_enter Try.func5, Try.ntmps5
    go_wp2_with (first | (go_at_call 12; with_reducible refine (awake_true _).mono ?_; rintro e w1 ⟨hb1, rfl⟩; have HB1 : Hid (Below w.heap.size w w1) := Lib.hid hb1; clear hb1) | (go_at_call 13; with_reducible refine (SH.out _ HB1.out).mono ?_; rintro e w2 ⟨hb2, rfl⟩; have HB2 : Hid (Below w.heap.size w w2) := Lib.hid (HB1.out.trans (hb2.mono HB1.out.size)); clear hb2))
    go_ret
    exact ⟨HB2.out, rfl⟩
  clear h hS hs h2
  go_enter Try.func5, Try.ntmps5
  go_wp2_with (first | (go_at_call 12; with_reducible refine (awake_true _).mono ?_; rintro e w1 ⟨hb1, rfl⟩; have HB1 : Hid (Below w.heap.size w w1) := Lib.hid hb1; clear hb1) | (go_at_call 13; with_reducible refine (SH.out _ HB1.out).mono ?_; rintro e w2 ⟨hb2, rfl⟩; have HB2 : Hid (Below w.heap.size w w2) := Lib.hid (HB1.out.trans (hb2.mono HB1.out.size)); clear hb2))
  go_loopw [5] (fun i wr => ∃ k : Nat, k ≤ n2 ∧ i = .int .i64 k ∧ Hid (∀ x ∈ ms.take k, x.p.size ≤ 30) ∧ Hid (Below w.heap.size w wr)) (fun i _ => n2 - (intOf i).toNat)
  case atStart => exact ⟨0, Nat.zero_le _, rfl, Lib.hid fun x hx => by simp at hx, HB2⟩
  case round =>
    obtain ⟨k, hk, rfl, HP, HB⟩ := hrel
    have ow := HB.out.size
    by_cases hlt : k < n2
    · obtain ⟨b, o, ⟨p, f, t, s, a, m⟩, rfl, hbb, hx, c0, -⟩ := (H2.out _ HB.out).m6 hlt
      dsimp only at c0
      have HX := Lib.hid hx
      clear hx
      by_cases hp : p.size ≤ 30
      · have hp' : ¬ (30 : Int) < (p.size : Int) := by omega
        go_wp2
        go_roundw
        case rel =>
          refine ⟨k + 1, by omega, by go_num, Lib.hid fun x hx => ?_, HB⟩
          rw [take_step HX.out, List.mem_append] at hx
          rcases hx with hx | hx
          · exact HP.out x hx
          · rw [List.mem_singleton.1 hx]; exact hp
        case measure => simp [intOf]; omega
      · have hp' : (30 : Int) < (p.size : Int) := by omega
        go_wp2
        go_ret
        exact ⟨HB.out, rfl⟩
    · obtain rfl : k = n2 := by omega
      have hkl : ms.take k = ms := List.take_of_length_le (by rw [HLEN2.out]; exact Nat.le_refl _)
      rw [hkl] at HP
      clear hkl
      obtain ⟨E, hE⟩ : ∃ E, stockErr l = E := ⟨_, rfl⟩
      have RC : Hid (∀ W, Below w.heap.size w W → Calls Try.prog 17 #[.slice A n ca] W fun e w' => Below W.heap.size W w' ∧ e = .returned (.int .i64 E)) := Lib.hid fun W hW => by rw [← hE]; exact refCheck_any A n ca l W (H.out W hW) HSZ.out
      by_cases h0 : E = 0
      rotate_left
      · have MV : Hid (∀ W, Below w.heap.size w W → Calls Try.prog 30 #[.slice A n ca, .slice A2 k ca2] W fun e w' => Below W.heap.size W w' ∧ e = .returned (.tuple #[.slice none 0 0, .int .i64 0, .int .i64 E])) := Lib.hid fun W hW => by rw [← hE]; exact moves_bad A A2 n ca k ca2 l W (H.out W hW) HSZ.out (by rw [hE]; exact h0) (by omega)
        have hq : (E != 0) = true := by simpa using h0
        clear hE h0
        go_wp2_with (first | (go_at_call 30; with_reducible refine (MV.out _ HB.out).mono ?_; rintro e w3 ⟨hb3, rfl⟩; have HB3 : Hid (Below w.heap.size w w3) := Lib.hid (HB.out.trans (hb3.mono HB.out.size)); clear hb3) | (go_at_call 17; with_reducible refine (RC.out _ HB3.out).mono ?_; rintro e w4 ⟨hb4, rfl⟩; have HB4 : Hid (Below w.heap.size w w4) := Lib.hid (HB3.out.trans (hb4.mono HB3.out.size)); clear hb4))
        go_ret
        exact ⟨HB4.out, rfl⟩
      subst h0
      by_cases hz : k = 0
      · subst hz
        obtain ⟨LL, hLL⟩ : ∃ LL, setL (manyL (foldL l)) (foldL l) = LL := ⟨_, rfl⟩
        obtain ⟨D, hD⟩ : ∃ D, setE (manyL (foldL l)) = D := ⟨_, rfl⟩
        have MV : Hid (∀ W, Below w.heap.size w W → Calls Try.prog 30 #[.slice A n ca, .slice A2 0 ca2] W fun e w' => Below W.heap.size W w' ∧ ∃ A3 c3, e = .returned (.tuple #[.slice A3 LL.length c3, .int .i64 0, .int .i64 D]) ∧ Rws Q4.cs 4 w' w'.heap.size A3 LL.length c3 LL) := Lib.hid fun W hW => by rw [← hLL, ← hD]; exact moves_none A A2 n ca ca2 l W (H.out W hW) HSZ.out hE
        have RM : Hid (∀ W, Below w.heap.size w W → Calls Try.prog 31 #[.slice A n ca, .slice A2 0 ca2] W fun e w' => Below W.heap.size W w' ∧ ∃ A3 c3, e = .returned (.tuple #[.slice A3 LL.length c3, .int .i64 0, .int .i64 D]) ∧ Rws Q4.cs 4 w' w'.heap.size A3 LL.length c3 LL) := Lib.hid fun W hW => by rw [← hLL, ← hD]; exact refMoves_none A A2 n ca ca2 l W (H.out W hW) HSZ.out hE
        clear hE hLL hD
        go_wp2_with (first
          | (go_at_call 30; with_reducible refine (MV.out _ HB.out).mono ?_; rintro e w3 ⟨hb3, A3, c3, rfl, hr3⟩; have HB3 : Hid (Below w.heap.size w w3) := Lib.hid (HB.out.trans (hb3.mono HB.out.size)); have HR3 := Lib.hid hr3; have hc3 := hr3.cap; have hm3 := hr3.max; clear hr3; clear hb3)
          | (go_at_call 17; with_reducible refine (RC.out _ HB3.out).mono ?_; rintro e w4 ⟨hb4, rfl⟩; have HB4 : Hid (Below w.heap.size w w4) := Lib.hid (HB3.out.trans (hb4.mono HB3.out.size)); have HR4 := Lib.hid (HR3.out.below hb4 (Nat.le_refl _) hb4.size); clear hb4)
          | (go_at_call 31; with_reducible refine (RM.out _ HB4.out).mono ?_; rintro e w5 ⟨hb5, A5, c5, rfl, hr5⟩; have HB5 : Hid (Below w.heap.size w w5) := Lib.hid (HB4.out.trans (hb5.mono HB4.out.size)); have HR5 := Lib.hid (HR4.out.below hb5 (Nat.le_refl _) hb5.size); have HQ5 := Lib.hid hr5; have hc5 := hr5.cap; have hm5 := hr5.max; clear hr5; clear hb5)
          | (go_at_call 20; with_reducible refine (sameStock_eq A3 A5 _ _ _ LL w5 HR5.out HQ5.out).mono ?_; rintro e w6 ⟨hb6, rfl⟩; have HB6 : Hid (Below w.heap.size w w6) := Lib.hid (HB5.out.trans (hb6.mono HB5.out.size)); clear hb6))
        go_ret
        exact ⟨HB6.out, rfl⟩
      · obtain ⟨Z, K, hZ⟩ : ∃ Z K, mvsR (cntS l) ms = (Z, K) := ⟨_, _, rfl⟩
        have MV : Hid (∀ W, Below w.heap.size w W → Calls Try.prog 30 #[.slice A n ca, .slice A2 k ca2] W fun e w' => Below W.heap.size W w' ∧ ∃ A3 c3 L3, e = .returned (.tuple #[.slice A3 L3.length c3, .int .i64 K, .int .i64 Z]) ∧ MvOut (cntS l) ms L3 ∧ Rws Q4.cs 4 w' w'.heap.size A3 L3.length c3 L3) := Lib.hid fun W hW => by
          refine (moves_ok A A2 n ca k ca2 l ms W (H.out W hW) (H2.out W hW) HSZ.out hE HP.out (by omega) (by omega)).mono ?_
          rintro e w' ⟨hb', v, L, rfl, ho, hr⟩
          obtain ⟨A3, c3, rfl, hr2⟩ := Rws.of_own hr rfl
          exact ⟨hb', A3, c3, L, by rw [hZ], ho, hr2⟩
        have RM : Hid (∀ W, Below w.heap.size w W → Calls Try.prog 31 #[.slice A n ca, .slice A2 k ca2] W fun e w' => Below W.heap.size W w' ∧ ∃ A3 c3 L3, e = .returned (.tuple #[.slice A3 L3.length c3, .int .i64 K, .int .i64 Z]) ∧ MvOut (cntS l) ms L3 ∧ Rws Q4.cs 4 w' w'.heap.size A3 L3.length c3 L3) := Lib.hid fun W hW => by
          have := refMoves_ok A A2 n ca k ca2 l ms W (H.out W hW) (H2.out W hW) HSZ.out hE HP.out (by omega) (by omega)
          rwa [hZ] at this
        clear hE hZ
        go_wp2_with (first
          | (go_at_call 30; with_reducible refine (MV.out _ HB.out).mono ?_; rintro e w3 ⟨hb3, A3, c3, LL, rfl, ho3, hr3⟩; have HB3 : Hid (Below w.heap.size w w3) := Lib.hid (HB.out.trans (hb3.mono HB.out.size)); have HO3 := Lib.hid ho3; have HR3 := Lib.hid hr3; have hc3 := hr3.cap; have hm3 := hr3.max; clear hr3 ho3; clear hb3)
          | (go_at_call 17; with_reducible refine (RC.out _ HB3.out).mono ?_; rintro e w4 ⟨hb4, rfl⟩; have HB4 : Hid (Below w.heap.size w w4) := Lib.hid (HB3.out.trans (hb4.mono HB3.out.size)); have HR4 := Lib.hid (HR3.out.below hb4 (Nat.le_refl _) hb4.size); clear hb4)
          | (go_at_call 31; with_reducible refine (RM.out _ HB4.out).mono ?_; rintro e w5 ⟨hb5, A5, c5, L5, rfl, ho5, hr5⟩; have HB5 : Hid (Below w.heap.size w w5) := Lib.hid (HB4.out.trans (hb5.mono HB4.out.size)); obtain rfl := ho5.one HO3.out; have HR5 := Lib.hid (HR4.out.below hb5 (Nat.le_refl _) hb5.size); have HQ5 := Lib.hid hr5; have hc5 := hr5.cap; have hm5 := hr5.max; clear hr5 ho5; clear hb5)
          | (go_at_call 20; with_reducible refine (sameStock_eq A3 A5 _ _ _ _ w5 HR5.out HQ5.out).mono ?_; rintro e w6 ⟨hb6, rfl⟩; have HB6 : Hid (Below w.heap.size w w6) := Lib.hid (HB5.out.trans (hb6.mono HB5.out.size)); clear hb6))
        go_ret
        exact ⟨HB6.out, rfl⟩

end Go.Proofs.Ytmcefodfppdajaa
