/- Chapter 8, walks: the reference's Moves. -/
import Derived.Test.YtmcefodfppdajaaRefMv8
import Derived.Test.YtmcefodfppdajaaLawStocks8
namespace Go.Proofs.Ytmcefodfppdajaa
open Go.RowKit Go.Maps Go.Deep

theorem nf_good {R : List Q4} {c : Sh → Int} (h : NF R c) (hf : Fin_ c) (hc : ∀ k, 0 ≤ c k ∧ c k ≤ 1000000) : Good8 R := fun y hy => by
  have e : c (keyQ y) = y.c := by rw [← h.cnt, asc_mem h.asc hy]
  refine ⟨hf _ (by rw [e]; exact h.nz y hy), ?_⟩
  have := hc (keyQ y)
  omega
theorem good_stock {l : List Q4} (hs : ∀ x ∈ l, x.s.size ≤ 30) (h0 : stockErr l = 0) : Good8 l := fun y hy => sE_sh ((stock_all h0).2 y hy) (hs y hy)
set_option maxRecDepth 100000 in
set_option maxHeartbeats 8000000 in
theorem refMoves_none (A A2 : Option Addr) (n ca ca2 : Nat) (l : List Q4) (w : World) (h : Rws Q4.cs 4 w w.heap.size A n ca l) (hs : ∀ x ∈ l, x.s.size ≤ 30) (h0 : stockErr l = 0) :
    Calls Try.prog 31 #[.slice A n ca, .slice A2 0 ca2] w fun e w' => Below w.heap.size w w' ∧ ∃ A3 c3, e = .returned (.tuple #[.slice A3 (setL (manyL (foldL l)) (foldL l)).length c3, .int .i64 0, .int .i64 (setE (manyL (foldL l)))]) ∧ Rws Q4.cs 4 w' w'.heap.size A3 (setL (manyL (foldL l)) (foldL l)).length c3 (setL (manyL (foldL l)) (foldL l)) := by
  have hcap := h.cap
  have hmax := h.max
  obtain ⟨LL, hLL⟩ : ∃ LL, setL (manyL (foldL l)) (foldL l) = LL := ⟨_, rfl⟩
  obtain ⟨D, hD⟩ : ∃ D, setE (manyL (foldL l)) = D := ⟨_, rfl⟩
  have NM : Hid (∀ W, Below w.heap.size w W → Calls Try.prog 19 #[.slice A n ca] W fun e w' => Below W.heap.size W w' ∧ ∃ A2 c2, e = .returned (.tuple #[.slice A2 LL.length c2, .int .i64 D]) ∧ Rws Q4.cs 4 w' w'.heap.size A2 LL.length c2 LL) := Lib.hid fun W hW => by
    have := refNormal_one A n ca l W (h.below hW (Nat.le_refl _) hW.size) hs h0
    rwa [hLL, hD] at this
  rw [hLL, hD]
  clear hLL hD h0 h hs
  go_enter Try.func31, Try.ntmps31
  go_wp2_with (go_at_call 19; with_reducible refine (NM.out _ (Below.refl _ _)).mono ?_; rintro e w1 ⟨hb1, A3, c3, rfl, hr1⟩; have HB1 := Lib.hid hb1; have HR1 := Lib.hid hr1; have ow1 := hb1.size; clear hb1 hr1)
  go_ret3
  exact ⟨HB1.out, A3, c3, rfl, HR1.out⟩
set_option maxRecDepth 100000 in
set_option maxHeartbeats 16000000 in
theorem refMoves_ok (A A2 : Option Addr) (n ca n2 ca2 : Nat) (l : List Q4) (ms : List Mo) (w : World) (h : Rws Q4.cs 4 w w.heap.size A n ca l) (h2 : Rws Mo.cs 6 w w.heap.size A2 n2 ca2 ms) (hs : ∀ x ∈ l, x.s.size ≤ 30) (h0 : stockErr l = 0) (hp : ∀ x ∈ ms, x.p.size ≤ 30) (hn1 : 0 < n2) (hn2 : n2 ≤ 1000) :
    Calls Try.prog 31 #[.slice A n ca, .slice A2 n2 ca2] w fun e w' => Below w.heap.size w w' ∧ ∃ (A3 : Option Addr) (c3 : Nat) (L : List Q4), e = .returned (.tuple #[.slice A3 L.length c3, .int .i64 (mvsR (cntS l) ms).2, .int .i64 (mvsR (cntS l) ms).1]) ∧ MvOut (cntS l) ms L ∧ Rws Q4.cs 4 w' w'.heap.size A3 L.length c3 L := by
  have hcap := h.cap
  have hmax := h.max
  obtain ⟨LL, hLL⟩ : ∃ LL, setL (manyL (foldL l)) (foldL l) = LL := ⟨_, rfl⟩
  obtain ⟨D, hD⟩ : ∃ D, setE (manyL (foldL l)) = D := ⟨_, rfl⟩
  have NM : Hid (∀ W, Below w.heap.size w W → Calls Try.prog 19 #[.slice A n ca] W fun e w' => Below W.heap.size W w' ∧ ∃ A2 c2, e = .returned (.tuple #[.slice A2 LL.length c2, .int .i64 D]) ∧ Rws Q4.cs 4 w' w'.heap.size A2 LL.length c2 LL) := Lib.hid fun W hW => by
    have := refNormal_one A n ca l W (h.below hW (Nat.le_refl _) hW.size) hs h0
    rwa [hLL, hD] at this
  clear hLL hD
  have HLEN := Lib.hid h.len
  have hcap2 := h2.cap
  have hmax2 := h2.max
  have HLEN2 := Lib.hid h2.len
  have hn : n ≤ 200 := by have := (stock_all h0).1; have := h.len; omega
  have HG := Lib.hid (good_stock hs h0)
  have H : Hid (∀ w', Below w.heap.size w w' → Rws Q4.cs 4 w' w'.heap.size A n ca l) := Lib.hid fun w' hb => h.below hb (Nat.le_refl _) hb.size
  have H2 : Hid (∀ w', Below w.heap.size w w' → Rws Mo.cs 6 w' w.heap.size A2 n2 ca2 ms) := Lib.hid fun w' hb => h2.below hb (Nat.le_refl _) (Nat.le_refl _)
  have HP := Lib.hid hp
  have hq2 : ((n2 : Int) == 0) = false := by simp; omega
  clear h0 h hs h2 hp
  go_enter Try.func31, Try.ntmps31
  go_wp2_with (go_at_call 19; with_reducible refine (NM.out _ (Below.refl _ _)).mono ?_; rintro e w1 ⟨hb1, A3, c3, rfl, hr1⟩; have HB1 := Lib.hid hb1; have HR1 := Lib.hid hr1; have ow1 := hb1.size; clear hb1 hr1)
  go_loopw [7, 8, 9] (fun v _ i wr => ∃ (k : Nat) (A4 : Option Addr) (c4 : Nat) (R : List Q4), k ≤ n2 ∧ i = .int .i64 k ∧ v = .slice A4 R.length c4 ∧ Hid (MvI (cntS l) ms k) ∧ Hid (Good8 R ∧ R.length ≤ 1000) ∧ Hid (∀ q, cntS R q = mvsC (cntS l) (ms.take k) q) ∧ Hid (k = 0 ∨ NF R (mvsC (cntS l) (ms.take k))) ∧ Hid (Rws Q4.cs 4 wr wr.heap.size A4 R.length c4 R) ∧ Hid (Below w.heap.size w wr)) (fun _ _ i _ => n2 - (intOf i).toNat)
  case atStart =>
    refine ⟨0, A, ca, l, Nat.zero_le _, rfl, by rw [HLEN.out], Lib.hid (MvI.start _ _), Lib.hid ⟨HG.out, by rw [HLEN.out]; omega⟩, Lib.hid fun q => rfl, Lib.hid (.inl rfl), ?_, HB1⟩
    rw [HLEN.out]
    exact Lib.hid (H.out _ HB1.out)
  case round =>
    obtain ⟨k, A4, c4, R, hk, rfl, rfl, HI, HQ, HC, HN, HR, HB⟩ := hrel
    have ow := HB.out.size
    by_cases hlt : k < n2
    · obtain ⟨b, o, ⟨p, f, t, s, a, m⟩, rfl, hbb, hx, c0, c1, c2, c3', c4', c5⟩ := (H2.out _ HB.out).m6 hlt
      dsimp only at c0 c1 c2 c3' c4' c5
      have hmem := List.mem_of_getElem? hx
      have HX := Lib.hid hx
      have HPX := Lib.hid (HP.out _ hmem)
      have ob : b < wr.heap.size := by omega
      have hcc : cntS R = mvsC (cntS l) (ms.take k) := funext HC.out
      obtain ⟨ck, hck⟩ : ∃ ck, mvsC (cntS l) (ms.take k) = ck := ⟨_, rfl⟩
      have HCK := Lib.hid hck
      rw [hck] at hcc
      have HCC := Lib.hid hcc
      obtain ⟨Z, hZ⟩ : ∃ Z, mvErr ck ⟨p, f, t, s, a, m⟩ = Z := ⟨_, rfl⟩
      have HZ := Lib.hid hZ
      have MV := Lib.hid (refMove_any A4 R.length c4 R ⟨p, f, t, s, a, m⟩ wr HR.out HQ.out.2 HQ.out.1 HPX.out)
      rw [hcc, hZ] at MV
      dsimp only at MV
      have hpos : Pos8 ck := by rw [← hcc]; exact HQ.out.1.pos HQ.out.2
      have hfin : Fin_ ck := by rw [← hcc]; exact HQ.out.1.fin
      have HPF := Lib.hid (And.intro hpos hfin)
      clear hx hmem hck hZ hcc hpos hfin
      by_cases h0 : Z = 0
      · subst h0
        go_wp2_with (go_at_call 29; go_loud (with_reducible refine MV.out.mono ?_; rintro e w5 ⟨hb5, v5, R5, rfl, ⟨hz5, -⟩, ho5⟩; obtain ⟨A5, c5', rfl, hr5⟩ := Rws.of_own ho5 rfl; have HR5 := Lib.hid hr5; have HZ5 := Lib.hid (hz5 rfl); have HB5 : Hid (Below w.heap.size w w5) := Lib.hid (HB.out.trans (hb5.mono ow)); clear ho5 hb5 hz5 hr5))
        go_roundw
        case rel =>
          have hmp := mvC_pos HPF.out.1 HPF.out.2 HPX.out HZ.out
          have hmf := mvC_fin HPF.out.2 HPX.out (mvErr_zero HZ.out).1
          refine ⟨k + 1, A5, c5', R5, by omega, by go_num, rfl, Lib.hid (HI.out.next HX.out (by rw [HCK.out]; exact HZ.out)), Lib.hid ⟨nf_good HZ5.out.1 hmf (fun q => ⟨(hmp.1 q).1, hmp.2 q⟩), by have := HZ5.out.2; omega⟩, ?_, ?_, HR5, HB5⟩
          · rw [mvsC_step HX.out, HCK.out]
            exact Lib.hid HZ5.out.1.cnt
          · rw [mvsC_step HX.out, HCK.out]
            exact Lib.hid (.inr HZ5.out.1)
        case measure => simp [intOf]; omega
      · have hq : (Z != 0) = true := by simpa using h0
        have HRR : Hid (mvsR (cntS l) ms = (Z, k)) := Lib.hid (by rw [← HZ.out, ← HCK.out]; exact HI.out.bad HX.out (by rw [HCK.out, HZ.out]; exact h0))
        have HZ0 := Lib.hid h0
        clear h0
        go_wp2_with (go_at_call 29; go_loud (with_reducible refine MV.out.mono ?_; rintro e w5 ⟨hb5, v5, R5, rfl, -, ho5⟩; have HB5 : Hid (Below w.heap.size w w5) := Lib.hid (HB.out.trans (hb5.mono ow)); clear ho5 hb5))
        go_ret3
        refine ⟨HB5.out, none, 0, [], ?_, ?_, Rws.nil_ _ _⟩
        · rw [HRR.out]; rfl
        · unfold MvOut; rw [HRR.out]; exact ⟨fun hh => absurd hh HZ0.out, fun _ => rfl⟩
    · obtain rfl : k = n2 := by omega
      have HRR : Hid (mvsR (cntS l) ms = (0, k)) := Lib.hid (HI.out.end_ (by rw [HLEN2.out]; exact Nat.le_refl _))
      have hkl : ms.take k = ms := List.take_of_length_le (by rw [HLEN2.out]; exact Nat.le_refl _)
      rw [hkl] at HN
      clear hkl
      go_wp2
      go_ret3
      refine ⟨HB.out, A4, c4, R, ?_, ?_, HR.out⟩
      · rw [HRR.out]; rfl
      · unfold MvOut; rw [HRR.out]; exact ⟨fun _ => HN.out.resolve_left (by omega), fun hh => absurd rfl hh⟩

end Go.Proofs.Ytmcefodfppdajaa
