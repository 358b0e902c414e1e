/- Chapter 8, walks: Moves of the program. -/
import Derived.Test.YtmcefodfppdajaaMvL8
import Derived.Test.YtmcefodfppdajaaLawStocks8
namespace Go.Proofs.Ytmcefodfppdajaa
open Go.RowKit Go.Maps Go.Deep

set_option maxRecDepth 100000 in
set_option maxHeartbeats 8000000 in
theorem moves_bad (A A2 : Option Addr) (n ca n2 ca2 : Nat) (l : List Q4) (w : World) (h : Rws Q4.cs 4 w w.heap.size A n ca l) (hs : ∀ x ∈ l, x.s.size ≤ 30) (h0 : stockErr l ≠ 0) (hn2 : n2 ≤ 1000) :
    Calls Try.prog 30 #[.slice A n ca, .slice A2 n2 ca2] w fun e w' => Below w.heap.size w w' ∧ e = .returned (.tuple #[.slice none 0 0, .int .i64 0, .int .i64 (stockErr l)]) := by
  have hcap := h.cap
  have hmax := h.max
  have HLEN := Lib.hid h.len
  have CK : Hid (∀ W, Below w.heap.size w W → Calls Try.prog 18 #[.slice A n ca] W fun e w' => Below W.heap.size W w' ∧ e = .returned (.int .i64 (stockErr l))) := Lib.hid fun W hW => check_any A n ca l W (h.below hW (Nat.le_refl _) hW.size) hs
  have NM : Hid (∀ W, Below w.heap.size w W → Calls Try.prog 14 #[.slice A n ca] W fun e w' => Below W.heap.size W w' ∧ e = .returned (.tuple #[.slice none 0 0, .int .i64 (stockErr l)])) := Lib.hid fun W hW => normal_bad A n ca l W (h.below hW (Nat.le_refl _) hW.size) hs h0
  obtain ⟨E, hE⟩ : ∃ E, stockErr l = E := ⟨_, rfl⟩
  have hq : (E != 0) = true := by rw [← hE]; simpa using h0
  rw [hE]
  rw [hE] at CK NM
  clear hE h0 h hs
  by_cases hz : n2 = 0
  · subst hz
    go_enter Try.func30, Try.ntmps30
    go_wp2_with (go_at_call 14; with_reducible refine (NM.out _ (Below.refl _ _)).mono ?_; rintro e w1 ⟨hb1, rfl⟩; have HB1 := Lib.hid hb1; clear hb1)
    go_ret3
    exact ⟨HB1.out, rfl⟩
  · have hq2 : ((n2 : Int) == 0) = false := by simpa using hz
    go_enter Try.func30, Try.ntmps30
    go_wp2_with (go_at_call 18; with_reducible refine (CK.out _ (Below.refl _ _)).mono ?_; rintro e w1 ⟨hb1, rfl⟩; have HB1 := Lib.hid hb1; clear hb1)
    go_ret3
    exact ⟨HB1.out, rfl⟩
set_option maxRecDepth 100000 in
set_option maxHeartbeats 8000000 in
theorem moves_none (A A2 : Option Addr) (n ca ca2 : Nat) (l : List Q4) (w : World) (h : Rws Q4.cs 4 w w.heap.size A n ca l) (hs : ∀ x ∈ l, x.s.size ≤ 30) (h0 : stockErr l = 0) :
    Calls Try.prog 30 #[.slice A n ca, .slice A2 0 ca2] w fun e w' => Below w.heap.size w w' ∧ ∃ A3 c3, e = .returned (.tuple #[.slice A3 (setL (manyL (foldL l)) (foldL l)).length c3, .int .i64 0, .int .i64 (setE (manyL (foldL l)))]) ∧ Rws Q4.cs 4 w' w'.heap.size A3 (setL (manyL (foldL l)) (foldL l)).length c3 (setL (manyL (foldL l)) (foldL l)) := by
  have hcap := h.cap
  have hmax := h.max
  have HLEN := Lib.hid h.len
  have CK : Hid (∀ W, Below w.heap.size w W → Calls Try.prog 18 #[.slice A n ca] W fun e w' => Below W.heap.size W w' ∧ e = .returned (.int .i64 (stockErr l))) := Lib.hid fun W hW => check_any A n ca l W (h.below hW (Nat.le_refl _) hW.size) hs
  obtain ⟨LL, hLL⟩ : ∃ LL, setL (manyL (foldL l)) (foldL l) = LL := ⟨_, rfl⟩
  obtain ⟨D, hD⟩ : ∃ D, setE (manyL (foldL l)) = D := ⟨_, rfl⟩
  have NM : Hid (∀ W, Below w.heap.size w W → Calls Try.prog 14 #[.slice A n ca] W fun e w' => Below W.heap.size W w' ∧ ∃ A2 c2, e = .returned (.tuple #[.slice A2 LL.length c2, .int .i64 D]) ∧ Rws Q4.cs 4 w' w'.heap.size A2 LL.length c2 LL) := Lib.hid fun W hW => by
    have := normal_one A n ca l W (h.below hW (Nat.le_refl _) hW.size) hs h0
    rwa [hLL, hD] at this
  rw [hLL, hD]
  clear hLL hD h0 h hs CK
  go_enter Try.func30, Try.ntmps30
  go_wp2_with (go_at_call 14; with_reducible refine (NM.out _ (Below.refl _ _)).mono ?_; rintro e w1 ⟨hb1, A3, c3, rfl, hr1⟩; have HB1 := Lib.hid hb1; have HR1 := Lib.hid hr1; clear hb1 hr1)
  go_ret3
  exact ⟨HB1.out, A3, c3, rfl, HR1.out⟩
set_option maxRecDepth 100000 in
set_option maxHeartbeats 16000000 in
theorem moves_ok (A A2 : Option Addr) (n ca n2 ca2 : Nat) (l : List Q4) (ms : List Mo) (w : World) (h : Rws Q4.cs 4 w w.heap.size A n ca l) (h2 : Rws Mo.cs 6 w w.heap.size A2 n2 ca2 ms) (hs : ∀ x ∈ l, x.s.size ≤ 30) (h0 : stockErr l = 0) (hp : ∀ x ∈ ms, x.p.size ≤ 30) (hn1 : 0 < n2) (hn2 : n2 ≤ 1000) :
    Calls Try.prog 30 #[.slice A n ca, .slice A2 n2 ca2] w fun e w' => Below w.heap.size w w' ∧ ∃ (v : Value) (L : List Q4), e = .returned (.tuple #[v, .int .i64 (mvsR (cntS l) ms).2, .int .i64 (mvsR (cntS l) ms).1]) ∧ MvOut (cntS l) ms L ∧ w'.ownsRow w.heap.size 103 4 v L.length (L.flatMap Q4.cs) := by
  have hcap := h.cap
  have hmax := h.max
  have HLEN := Lib.hid h.len
  have CK : Hid (∀ W, Below w.heap.size w W → Calls Try.prog 18 #[.slice A n ca] W fun e w' => Below W.heap.size W w' ∧ e = .returned (.int .i64 (stockErr l))) := Lib.hid fun W hW => check_any A n ca l W (h.below hW (Nat.le_refl _) hW.size) hs
  have hcap2 := h2.cap
  have hmax2 := h2.max
  have HLEN2 := Lib.hid h2.len
  have SO : Hid (∀ W, Below w.heap.size w W → Calls Try.prog 53 #[.slice A n ca] W fun e w' => Below W.heap.size W w' ∧ e = .returned (.map (some W.heap.size)) ∧ ShM w' W.heap.size n (cntS l)) := Lib.hid fun W hW => shelvesOf_any A n ca l W (h.below hW (Nat.le_refl _) hW.size) hs (stock_all h0).2 (by have := (stock_all h0).1; have := h.len; omega)
  rw [h0] at CK
  have hn : n ≤ 200 := by have := (stock_all h0).1; have := h.len; omega
  obtain ⟨c, hc⟩ : ∃ c, cntS l = c := ⟨_, rfl⟩
  have HFN := Lib.hid (fin_cnt hs (stock_all h0).2)
  have HPS : Hid (Pos8 (cntS l)) := Lib.hid fun k => by
    have := cntS_bd (k := k) (l := l) fun x hx => (sE_sh ((stock_all h0).2 x hx) (hs x hx)).2
    have := (stock_all h0).1
    constructor <;> omega
  rw [hc] at SO HFN HPS
  rw [hc]
  have H2 : Hid (∀ w', Below w.heap.size w w' → Rws Mo.cs 6 w' w.heap.size A2 n2 ca2 ms) := Lib.hid fun w' hb => h2.below hb (Nat.le_refl _) (Nat.le_refl _)
  have HP := Lib.hid hp
  have hq2 : ((n2 : Int) == 0) = false := by simp; omega
  clear h0 h hs hc h2 hp
  go_enter Try.func30, Try.ntmps30
  go_wp2_with (first
    | (go_at_call 18; with_reducible refine (CK.out _ (Below.refl _ _)).mono ?_; rintro e w1 ⟨hb1, rfl⟩; have HB1 := Lib.hid hb1; have ow1 := hb1.size; clear hb1)
    | (go_at_call 53; with_reducible refine (SO.out _ HB1.out).mono ?_; rintro e w2 ⟨hb2, rfl, hm2⟩; have HM2 := Lib.hid hm2; have HB2 : Hid (Below w.heap.size w w2) := Lib.hid (HB1.out.trans (hb2.mono HB1.out.size)); have ow2 := hb2.size; clear hb2 hm2))
  go_loopw [11, 12, 13, 33] (fun _ _ _ i wr => ∃ k : Nat, k ≤ n2 ∧ i = .int .i64 k ∧ Hid (MvI c ms k) ∧ Hid (Pos8 (mvsC c (ms.take k)) ∧ Fin_ (mvsC c (ms.take k))) ∧ Hid (ShM wr w1.heap.size (n + 2 * k) (mvsC c (ms.take k))) ∧ Hid (Below w.heap.size w wr)) (fun _ _ _ i _ => n2 - (intOf i).toNat)
  case atStart => exact ⟨0, Nat.zero_le _, rfl, Lib.hid (MvI.start _ _), Lib.hid ⟨HPS.out, HFN.out⟩, HM2, HB2⟩
  case round =>
    obtain ⟨k, hk, rfl, HI, HQ, HM, HB⟩ := hrel
    have ow := HB.out.size
    have og := HM.out.lt
    by_cases hlt : k < n2
    · obtain ⟨b, o, ⟨p, f, t, s, a, m⟩, rfl, hbb, hx, c0, c1, c2, c3, c4, c5⟩ := (H2.out _ HB.out).m6 hlt
      dsimp only at c0 c1 c2 c3 c4 c5
      have hmem := List.mem_of_getElem? hx
      have HX := Lib.hid hx
      have HPX := Lib.hid (HP.out _ hmem)
      have ob : b < wr.heap.size := by omega
      obtain ⟨ck, hck⟩ : ∃ ck, mvsC c (ms.take k) = ck := ⟨_, rfl⟩
      have HCK := Lib.hid hck
      rw [hck] at HQ HM
      obtain ⟨Z, hZ⟩ : ∃ Z, mvErr ck ⟨p, f, t, s, a, m⟩ = Z := ⟨_, rfl⟩
      have HZ := Lib.hid hZ
      have MV : Hid (∀ W, ShM W w1.heap.size (n + 2 * k) ck → Calls Try.prog 63 #[.map (some w1.heap.size), .agg #[.string p, .int .i64 f, .int .i64 t, .int .i64 s, .int .i64 a, .int .i64 m]] W fun e w' => W.grownBy w' (some w1.heap.size) ∧ e = .returned (.int .i64 Z) ∧ (Z = 0 → ShM w' w1.heap.size (n + 2 * k + 2) (mvC ck ⟨p, f, t, s, a, m⟩))) := Lib.hid fun W hW => by
        have := move_any w1.heap.size (n + 2 * k) ck ⟨p, f, t, s, a, m⟩ W hW HPX.out (by omega) HQ.out.1
        rwa [hZ] at this
      clear hx hmem hck hZ
      by_cases h0 : Z = 0
      · subst h0
        go_wp2_with (go_at_call 63; with_reducible refine (MV.out _ (HM.out.alloc _)).mono ?_; rintro e w3 ⟨hg3, rfl, hm3⟩; have HM3 := Lib.hid (hm3 rfl); have HB3 : Hid (Below w.heap.size w w3) := Lib.hid (Below.grown_ (HB.out.alloc HB.out.size _) hg3 (by simp; omega) (fun q hq => by cases hq; omega)); clear hm3 hg3)
        go_roundw
        case rel =>
          refine ⟨k + 1, by omega, by go_num, Lib.hid (HI.out.next HX.out (by rw [HCK.out]; exact HZ.out)), ?_, ?_, HB3⟩
          · rw [mvsC_step HX.out, HCK.out]
            exact Lib.hid ⟨(mvC_pos HQ.out.1 HQ.out.2 HPX.out HZ.out).1, mvC_fin HQ.out.2 HPX.out (mvErr_zero HZ.out).1⟩
          · rw [mvsC_step HX.out, HCK.out]
            exact Lib.hid (HM3.out.more (by omega))
        case measure => simp [intOf]; omega
      · have hq : (Z != 0) = true := by simpa using h0
        have HR : Hid (mvsR c ms = (Z, k)) := Lib.hid (by rw [← HZ.out, ← HCK.out]; exact HI.out.bad HX.out (by rw [HCK.out, HZ.out]; exact h0))
        have HZ0 := Lib.hid h0
        clear h0
        go_wp2_with (go_at_call 63; with_reducible refine (MV.out _ (HM.out.alloc _)).mono ?_; rintro e w3 ⟨hg3, rfl, -⟩; have HB3 : Hid (Below w.heap.size w w3) := Lib.hid (Below.grown_ (HB.out.alloc HB.out.size _) hg3 (by simp; omega) (fun q hq => by cases hq; omega)); clear hg3)
        go_ret3
        refine ⟨HB3.out, .slice none 0 0, [], ?_, ?_, World.ownsRow_nil _ _ _ _⟩
        · rw [HR.out]; rfl
        · unfold MvOut; rw [HR.out]; exact ⟨fun hh => absurd hh HZ0.out, fun _ => rfl⟩
    · obtain rfl : k = n2 := by omega
      have HR : Hid (mvsR c ms = (0, k)) := Lib.hid (HI.out.end_ (by rw [HLEN2.out]; exact Nat.le_refl _))
      have hkl : ms.take k = ms := List.take_of_length_le (by rw [HLEN2.out]; exact Nat.le_refl _)
      rw [hkl] at HQ HM
      clear hkl
      go_wp2_with (go_at_call 55; go_loud (with_reducible refine (entries_any _ _ _ _ HM.out HQ.out.2 (by omega)).mono ?_; rintro e w4 ⟨hb4, v, L, rfl, hnf, ho4⟩; have HNF := Lib.hid hnf; have HO4 := Lib.hid ho4; have HB4 : Hid (Below w.heap.size w w4) := Lib.hid (HB.out.trans (hb4.mono HB.out.size)); clear hb4 hnf ho4))
      go_ret3
      refine ⟨HB4.out, v, L, ?_, ?_, own_base HO4.out (by omega)⟩
      · rw [HR.out]; rfl
      · unfold MvOut; rw [HR.out]; exact ⟨fun _ => HNF.out, fun hh => absurd rfl hh⟩

end Go.Proofs.Ytmcefodfppdajaa
