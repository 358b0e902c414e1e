/- Chapter 9, walks: the balance of a part. -/
import Derived.Test.YtbeijeblbchglaaChgMathB9
import Derived.Test.YtbeijeblbchglaaUpTo9
import Derived.Test.YtbeijeblbchglaaCounts9
namespace Go.Proofs.Ytbeijeblbchglaa
open Go.RowKit Go.WideShapes Go.Deep

/-- A balance: delivered, returned, lost, on hire. -/
structure B4 where
  a : Int
  b : Int
  c : Int
  d : Int
def B4.cs (x : B4) : List Value := [.int .i64 x.a, .int .i64 x.b, .int .i64 x.c, .int .i64 x.d]
theorem B4.wide (x : B4) : x.cs.length = 4 := rfl
theorem B4.one (x : B4) : ∀ u ∈ x.cs, u.oneCell' = true := by intro u hu; simp [B4.cs] at hu; rcases hu with rfl | rfl | rfl | rfl <;> rfl
theorem Rws.b4 {w : World} {B n c k : Nat} {A : Option Addr} {l : List B4} (h : Rws B4.cs 4 w B A n c l) (hk : k < n) : ∃ b o x, A = some ⟨b, o, none⟩ ∧ b < B ∧ l[k]? = some x ∧ w.cell? ⟨b, o + k * 4, none⟩ = some (.int .i64 x.a) ∧ w.cell? ⟨b, o + k * 4 + 1, none⟩ = some (.int .i64 x.b) ∧ w.cell? ⟨b, o + k * 4 + 2, none⟩ = some (.int .i64 x.c) ∧ w.cell? ⟨b, o + k * 4 + 3, none⟩ = some (.int .i64 x.d) := by
  obtain ⟨b, o, x, e, hb, hx, hc⟩ := h.at_ B4.wide hk
  exact ⟨b, o, x, e, hb, hx, hc 0 _ rfl, hc 1 _ rfl, hc 2 _ rfl, hc 3 _ rfl⟩
def balP (L : List Mv) (p : ByteArray) : B4 := ⟨cnt 0 L p, cnt 1 L p, cnt 2 L p, stock L p⟩
theorem info_arr4 : (Try.prog.info? 73).map (fun i => (i.zero, i.size, i.bytes)) = some (some (.agg #[.int .i64 0, .int .i64 0, .int .i64 0, .int .i64 0]), 4, 32) := by kernel_rfl
set_option maxRecDepth 100000 in
set_option maxHeartbeats 16000000 in
theorem balanceOf_any (A : Option Addr) (n c : Nat) (l : List Mv) (p : ByteArray) (w : World) (h : Rws Mv.cs 4 w w.heap.size A n c l) (hok : l.all okM = true) (hn : n ≤ 300) :
    Calls Try.prog 67 #[.string p, .slice A n c] w fun e w' => Below w.heap.size w w' ∧ e = .returned (.agg (balP l p).cs.toArray) := by
  have hcap := h.cap
  have hmax := h.max
  have HLEN := Lib.hid h.len
  have HOK := Lib.hid hok
  have H : Hid (∀ w', Below w.heap.size w w' → Rws Mv.cs 4 w' w.heap.size A n c l) := fun w' hb => h.below hb (Nat.le_refl _) (Nat.le_refl _)
  have HBD : Hid (∀ j, (∀ k, 0 ≤ cnt k (l.take j) p ∧ cnt k (l.take j) p ≤ 30000000) ∧ -60000000 ≤ stock (l.take j) p ∧ stock (l.take j) p ≤ 30000000) := Lib.hid fun j => by
    have h2 : (l.take j).length ≤ 300 := by rw [List.length_take, h.len]; omega
    have hk : ∀ k, 0 ≤ cnt k (l.take j) p ∧ cnt k (l.take j) p ≤ 30000000 := fun k => by
      have := cnt_bd (l.take j) k p (all_take hok j)
      omega
    refine ⟨hk, ?_⟩
    have h0 := hk 0
    have h1 := hk 1
    have h3 := hk 2
    rw [stock_cnt _ _ (all_take hok j)]
    omega
  clear h hok
  go_enter Try.func67, Try.ntmps67
  go_wp2
  go_loopw [7, 10] (fun _ i wr => ∃ k : Nat, k ≤ n ∧ i = .int .i64 k ∧ ∃ x0 x1 x2 x3, Hid (cnt 0 (l.take k) p = x0 ∧ cnt 1 (l.take k) p = x1 ∧ cnt 2 (l.take k) p = x2 ∧ stock (l.take k) p = x3) ∧ Bk wr w.heap.size 73 #[.int .i64 0, .int .i64 0, .int .i64 0, .int .i64 0] ∧ Bk wr (w.heap.size + 1) 73 #[.int .i64 x0, .int .i64 x1, .int .i64 x2, .int .i64 x3] ∧ Below w.heap.size w wr) (fun _ i _ => n - (intOf i).toNat)
  case atStart => exact ⟨0, Nat.zero_le _, rfl, 0, 0, 0, 0, Lib.hid (by simp [cnt, stock]), (by repeat (first | with_reducible assumption | with_reducible exact Bk.at_ (by first | (simp; done) | omega) | with_reducible refine Bk.alloc ?_ _ | with_reducible refine Bk.drew ?_ | with_reducible refine Bk.drewN ?_ _ | with_reducible refine Bk.step (by with_reducible assumption) ?_ (by first | omega | (simp <;> omega)))), (by repeat (first | with_reducible assumption | with_reducible exact Bk.at_ (by first | (simp; done) | omega) | with_reducible refine Bk.alloc ?_ _ | with_reducible refine Bk.drew ?_ | with_reducible refine Bk.drewN ?_ _ | with_reducible refine Bk.step (by with_reducible assumption) ?_ (by first | omega | (simp <;> omega)))), (by repeat (first | with_reducible exact Below.refl _ _ | with_reducible assumption | with_reducible refine Below.drew ?_ | with_reducible refine Below.drewN ?_ _ | with_reducible refine Below.alloc2 ?_ _ | with_reducible refine Below.alloc ?_ (by first | omega | (simp <;> omega)) _ | with_reducible refine Below.setCell ?_ (by first | omega | (simp <;> omega)) _ | with_reducible refine Below.step2 (by with_reducible assumption) ?_ | with_reducible refine Below.step (by with_reducible assumption) ?_ (by first | omega | (simp <;> omega))))⟩
  case round =>
    obtain ⟨k, hk, rfl, x0, x1, x2, x3, HC, hk0, hk1, hb⟩ := hrel
    have HB := Lib.hid hb
    have HK0 := Lib.hid hk0
    have HK1 := Lib.hid hk1
    have ow := hb.size
    have ol1 := hk1.lt
    obtain ⟨q0, q1, q2, q3⟩ := hk1.fourc
    obtain ⟨r0, r1, r2, r3⟩ := hk0.fourc
    have f0 := hk1.frozen 0
    have f1 := hk1.frozen 1
    have f2 := hk1.frozen 2
    have f3 := hk1.frozen 3
    have e0 := hk0.frozen 0
    have e1 := hk0.frozen 1
    have e2 := hk0.frozen 2
    have e3 := hk0.frozen 3
    by_cases hlt : k < n
    · obtain ⟨b, o, ⟨xd, xk, xp, xn⟩, rfl, hbb, hx, c0, c1, c2, c3⟩ := (H.out _ hb).mv hlt
      dsimp only at c0 c1 c2 c3
      have hokx := List.all_eq_true.1 HOK.out _ (List.mem_of_getElem? hx)
      unfold okM at hokx
      simp only [Bool.and_eq_true] at hokx
      have hk2 := inR_iff.1 hokx.1
      have hn2 := inR_iff.1 hokx.2
      (try dsimp only at hk2); (try dsimp only at hn2)
      obtain ⟨v, hv⟩ : ∃ v, (xp.toList == p.toList) = v := ⟨_, rfl⟩
      have hv2 : eqS xp p = v := hv
      have s0 := cnt_step hx 0 p
      have s1 := cnt_step hx 1 p
      have s2 := cnt_step hx 2 p
      have s3 := stock_step hx p
      (try dsimp only at s0); (try dsimp only at s1); (try dsimp only at s2); (try dsimp only at s3)
      rw [hv2, HC.out.1] at s0
      rw [hv2, HC.out.2.1] at s1
      rw [hv2, HC.out.2.2.1] at s2
      rw [hv2, HC.out.2.2.2] at s3
      obtain ⟨bdk, bds⟩ := HBD.out k
      have bd0 := bdk 0
      have bd1 := bdk 1
      have bd2 := bdk 2
      rw [HC.out.1] at bd0
      rw [HC.out.2.1] at bd1
      rw [HC.out.2.2.1] at bd2
      rw [HC.out.2.2.2] at bds
      have ob : b < wr.heap.size := by omega
      have z1 : (0 : Int) ≤ (k : Int) := by omega
      have z2 : (k : Int) < (n : Int) := by omega
      clear hx hb hokx hv2 hk0 hk1 bdk
      cases v
      · have HCN : Hid (cnt 0 (l.take (k + 1)) p = x0 ∧ cnt 1 (l.take (k + 1)) p = x1 ∧ cnt 2 (l.take (k + 1)) p = x2 ∧ stock (l.take (k + 1)) p = x3) := Lib.hid (by simp at s0 s1 s2 s3; exact ⟨s0, s1, s2, s3⟩)
        clear s0 s1 s2 s3
        go_wp2
        go_roundw
        case rel =>
          have hb0 := HB.out
          have hk0 := HK0.out
          have hk1 := HK1.out
          exact ⟨k + 1, by omega, by go_num, x0, x1, x2, x3, HCN, (by repeat (first | with_reducible assumption | with_reducible exact Bk.at_ (by first | (simp; done) | omega) | with_reducible refine Bk.alloc ?_ _ | with_reducible refine Bk.drew ?_ | with_reducible refine Bk.drewN ?_ _ | with_reducible refine Bk.step (by with_reducible assumption) ?_ (by first | omega | (simp <;> omega)))), (by repeat (first | with_reducible assumption | with_reducible exact Bk.at_ (by first | (simp; done) | omega) | with_reducible refine Bk.alloc ?_ _ | with_reducible refine Bk.drew ?_ | with_reducible refine Bk.drewN ?_ _ | with_reducible refine Bk.step (by with_reducible assumption) ?_ (by first | omega | (simp <;> omega)))), (by repeat (first | with_reducible exact Below.refl _ _ | with_reducible assumption | with_reducible refine Below.drew ?_ | with_reducible refine Below.drewN ?_ _ | with_reducible refine Below.alloc2 ?_ _ | with_reducible refine Below.alloc ?_ (by first | omega | (simp <;> omega)) _ | with_reducible refine Below.setCell ?_ (by first | omega | (simp <;> omega)) _ | with_reducible refine Below.step2 (by with_reducible assumption) ?_ | with_reducible refine Below.step (by with_reducible assumption) ?_ (by first | omega | (simp <;> omega))))⟩
        case measure => simp [intOf]; omega
      · obtain ⟨G, hG⟩ : ∃ G, gn ⟨xd, xk, xp, xn⟩ = G := ⟨_, rfl⟩
        have hgb : -100000 ≤ G ∧ G ≤ 100000 := by
          rw [← hG]
          unfold gn
          split <;> (dsimp only; omega)
        have GA : Hid (∀ W, Calls Try.prog 62 #[.agg #[.int .i64 xd, .int .i64 xk, .string xp, .int .i64 xn]] W fun e w' => Below W.heap.size W w' ∧ e = .returned (.int .i64 G)) := Lib.hid fun W => by
          have := gain_any xd xk xn xp (by omega) W
          rwa [hG] at this
        rw [hG] at s3
        have hw7 : IntKind.i64.wrap (x3 + G) = x3 + G := IntWalk.i64_in _ (by omega)
        clear hG
        obtain rfl | rfl | rfl : xk = 0 ∨ xk = 1 ∨ xk = 2 := by omega
        · have HCN : Hid (cnt 0 (l.take (k + 1)) p = x0 + xn ∧ cnt 1 (l.take (k + 1)) p = x1 ∧ cnt 2 (l.take (k + 1)) p = x2 ∧ stock (l.take (k + 1)) p = x3 + G) := Lib.hid (by simp at s0 s1 s2 s3; exact ⟨s0, s1, s2, s3⟩)
          have hw6 : IntKind.i64.wrap (x0 + xn) = x0 + xn := IntWalk.i64_in _ (by omega)
          clear s0 s1 s2 s3
          (
                    go_upto_region 6 with (fail)
                    obtain ⟨W0, hW0⟩ : ∃ W, W = wr.alloc (.cells #[.int .i64 xd, .int .i64 0, .string xp, .int .i64 xn] 90) := ⟨_, rfl⟩
                    rw [← hW0]
                    have hk1 := HK1.out
                    have hk0 := HK0.out
                    have hkm : Bk W0 wr.heap.size 90 #[.int .i64 xd, .int .i64 0, .string xp, .int .i64 xn] := by rw [hW0]; exact Bk.at_ rfl
                    have hkb : Bk W0 (w.heap.size + 1) 73 #[.int .i64 x0, .int .i64 x1, .int .i64 x2, .int .i64 x3] := by rw [hW0]; exact Bk.alloc hk1 _
                    have hkz : Bk W0 w.heap.size 73 #[.int .i64 0, .int .i64 0, .int .i64 0, .int .i64 0] := by rw [hW0]; exact Bk.alloc hk0 _
                    have hB0 : Below w.heap.size w W0 := by rw [hW0]; have hb0 := HB.out; exact (by repeat (first | with_reducible exact Below.refl _ _ | with_reducible assumption | with_reducible refine Below.drew ?_ | with_reducible refine Below.drewN ?_ _ | with_reducible refine Below.alloc2 ?_ _ | with_reducible refine Below.alloc ?_ (by first | omega | (simp <;> omega)) _ | with_reducible refine Below.setCell ?_ (by first | omega | (simp <;> omega)) _ | with_reducible refine Below.step2 (by with_reducible assumption) ?_ | with_reducible refine Below.step (by with_reducible assumption) ?_ (by first | omega | (simp <;> omega))))
                    have HKM := Lib.hid hkm
                    have HKB := Lib.hid hkb
                    have HKZ := Lib.hid hkz
                    have HB0 := Lib.hid hB0
                    have hs1 : Bk W0.drew wr.heap.size 90 #[.int .i64 xd, .int .i64 0, .string xp, .int .i64 xn] ∧ Bk W0.drew (w.heap.size + 1) 73 #[.int .i64 x0, .int .i64 x1, .int .i64 x2, .int .i64 x3] := ⟨hkm.drew, hkb.drew⟩
                    have fz := (hkb.drew).frozen 0
                    clear hk1 hk0 hkm hkb hkz hB0
                    refine region_goes (n := 9) (fun w' => Bk w' wr.heap.size 90 #[.int .i64 xd, .int .i64 0, .string xp, .int .i64 xn] ∧ Bk w' (w.heap.size + 1) 73 #[.int .i64 x0, .int .i64 x1, .int .i64 x2, .int .i64 x3]) [8] (by kernel_rfl) rfl ?_
                    refine goes_takeE (i := 0) (E := [1, 2, 3, 6, 7, 8]) (v := .pointer (some ⟨wr.heap.size, 1, none⟩)) rfl (by kernel_rfl) rfl (fun _ _ _ h => h) (by intro w' hw'; obtain ⟨z0, z1, z2, z3⟩ := hw'.1.fourc; obtain ⟨y0, y1, y2, y3⟩ := hw'.2.fourc; go_simp) hs1 ?_
                    refine goes_takeE (i := 1) (E := [2, 3, 6, 7, 8]) (v := .int .i64 0) rfl (by kernel_rfl) rfl (fun _ _ _ h => h) (by intro w' hw'; obtain ⟨z0, z1, z2, z3⟩ := hw'.1.fourc; obtain ⟨y0, y1, y2, y3⟩ := hw'.2.fourc; go_simp) hs1 ?_
                    refine goes_takeE (i := 2) (E := [3, 6, 8]) (v := .pointer (some ⟨w.heap.size + 1, 0, none⟩)) rfl (by kernel_rfl) rfl (fun _ _ _ h => h) (by intro w' hw'; obtain ⟨z0, z1, z2, z3⟩ := hw'.1.fourc; obtain ⟨y0, y1, y2, y3⟩ := hw'.2.fourc; go_simp) hs1 ?_
                    refine goes_takeE (i := 3) (E := [6, 8]) (v := .int .i64 x0) rfl (by kernel_rfl) rfl (fun _ _ _ h => h) (by intro w' hw'; obtain ⟨z0, z1, z2, z3⟩ := hw'.1.fourc; obtain ⟨y0, y1, y2, y3⟩ := hw'.2.fourc; go_simp) hs1 ?_
                    refine goes_takeE (i := 4) (E := [5, 6, 8]) (v := .pointer (some ⟨wr.heap.size, 3, none⟩)) rfl (by kernel_rfl) rfl (fun _ _ _ h => h) (by intro w' hw'; obtain ⟨z0, z1, z2, z3⟩ := hw'.1.fourc; obtain ⟨y0, y1, y2, y3⟩ := hw'.2.fourc; go_simp) hs1 ?_
                    refine goes_takeE (i := 5) (E := [6, 8]) (v := .int .i64 xn) rfl (by kernel_rfl) rfl (fun _ _ _ h => h) (by intro w' hw'; obtain ⟨z0, z1, z2, z3⟩ := hw'.1.fourc; obtain ⟨y0, y1, y2, y3⟩ := hw'.2.fourc; go_simp) hs1 ?_
                    refine goes_takeE (i := 6) (E := [8]) (v := .int .i64 (x0 + xn)) rfl (by kernel_rfl) rfl (fun _ _ _ h => h) (by intro w' hw'; obtain ⟨z0, z1, z2, z3⟩ := hw'.1.fourc; obtain ⟨y0, y1, y2, y3⟩ := hw'.2.fourc; go_simp) hs1 ?_
                    refine goes_takeE (i := 7) (E := [8]) (v := .pointer (some ⟨w.heap.size + 1, 0, none⟩)) rfl (by kernel_rfl) rfl (fun _ _ _ h => h) (by intro w' hw'; obtain ⟨z0, z1, z2, z3⟩ := hw'.1.fourc; obtain ⟨y0, y1, y2, y3⟩ := hw'.2.fourc; go_simp) hs1 ?_
                    clear hs1
                    obtain ⟨W1, hW1⟩ : ∃ W, W = W0.drew := ⟨_, rfl⟩
                    have hkm1 : Bk W1 wr.heap.size 90 #[.int .i64 xd, .int .i64 0, .string xp, .int .i64 xn] := by rw [hW1]; exact HKM.out.drew
                    have hkb1 : Bk W1 (w.heap.size + 1) 73 #[.int .i64 x0, .int .i64 x1, .int .i64 x2, .int .i64 x3] := by rw [hW1]; exact HKB.out.drew
                    have hkz1 : Bk W1 w.heap.size 73 #[.int .i64 0, .int .i64 0, .int .i64 0, .int .i64 0] := by rw [hW1]; exact HKZ.out.drew
                    have hbb1 : Below w.heap.size w W1 := by rw [hW1]; exact HB0.out.drew
                    rw [← hW1] at fz ⊢
                    obtain ⟨y0, y1, y2, y3⟩ := hkb1.fourc
                    have HKM1 := Lib.hid hkm1
                    have HKB1 := Lib.hid hkb1
                    have HKZ1 := Lib.hid hkz1
                    have HBB1 := Lib.hid hbb1
                    clear hkm1 hkb1 hkz1 hbb1 hW1 hW0
                    refine goes_last (i := 8) rfl (by kernel_rfl) (by kernel_rfl) ?_
                    go_wp2_with fail
                    refine behind_ok (goes_done (by kernel_rfl) ?_)
                    go_wp2
                    obtain ⟨W2, hW2⟩ : ∃ W, W = W1.setCell ⟨w.heap.size + 1, 0, none⟩ (.int .i64 (x0 + xn)) := ⟨_, rfl⟩
                    rw [← hW2]
                    have hk1 : Bk W2 (w.heap.size + 1) 73 #[.int .i64 (x0 + xn), .int .i64 (x1), .int .i64 (x2), .int .i64 x3] := by rw [hW2]; simpa using Bk.set_ HKB1.out 0 (.int .i64 (x0 + xn))
                    have hkm : Bk W2 wr.heap.size 90 #[.int .i64 xd, .int .i64 0, .string xp, .int .i64 xn] := by rw [hW2]; exact Bk.other HKM1.out (by simp; omega) _
                    have hkz : Bk W2 w.heap.size 73 #[.int .i64 0, .int .i64 0, .int .i64 0, .int .i64 0] := by rw [hW2]; exact Bk.other HKZ1.out (by simp) _
                    have hB2 : Below w.heap.size w W2 := by rw [hW2]; exact HBB1.out.setCell (by simp) _
                    have HB2 := Lib.hid hk1
                    have HM2 := Lib.hid hkm
                    have HZ2 := Lib.hid hkz
                    have HL2 := Lib.hid hB2
                    have hs1 : Bk W2.drew wr.heap.size 90 #[.int .i64 xd, .int .i64 0, .string xp, .int .i64 xn] ∧ Bk W2.drew (w.heap.size + 1) 73 #[.int .i64 (x0 + xn), .int .i64 (x1), .int .i64 (x2), .int .i64 x3] := ⟨hkm.drew, hk1.drew⟩
                    clear hk1 hkm hkz hB2 fz hW2
                    refine region_goes (n := 7) (fun w' => Bk w' wr.heap.size 90 #[.int .i64 xd, .int .i64 0, .string xp, .int .i64 xn] ∧ Bk w' (w.heap.size + 1) 73 #[.int .i64 (x0 + xn), .int .i64 (x1), .int .i64 (x2), .int .i64 x3]) [6] (by kernel_rfl) rfl ?_
                    refine goes_takeE (i := 0) (E := [1, 4, 6]) (v := .pointer (some ⟨w.heap.size + 1, 3, none⟩)) rfl (by kernel_rfl) rfl (fun _ _ _ h => h) (by intro w' hw'; obtain ⟨z0, z1, z2, z3⟩ := hw'.1.fourc; obtain ⟨y0, y1, y2, y3⟩ := hw'.2.fourc; go_simp) hs1 ?_
                    refine goes_takeE (i := 1) (E := [4, 6]) (v := .int .i64 x3) rfl (by kernel_rfl) rfl (fun _ _ _ h => h) (by intro w' hw'; obtain ⟨z0, z1, z2, z3⟩ := hw'.1.fourc; obtain ⟨y0, y1, y2, y3⟩ := hw'.2.fourc; go_simp) hs1 ?_
                    refine goes_takeE (i := 2) (E := [3, 4, 6]) (v := .agg #[.int .i64 xd, .int .i64 0, .string xp, .int .i64 xn]) rfl (by kernel_rfl) rfl (fun _ _ _ h => h) (by intro w' hw'; obtain ⟨z0, z1, z2, z3⟩ := hw'.1.fourc; obtain ⟨y0, y1, y2, y3⟩ := hw'.2.fourc; go_simp) hs1 ?_
                    clear hs1
                    refine goes_call (i := 3) rfl (by kernel_rfl) ?_
                    go_wp2_with (go_at_call 62; refine (GA.out _).mono ?_; rintro e w3 ⟨hb3, rfl⟩; have HS3 : Hid (Below W2.heap.size W2 w3) := Lib.hid (by exact (by repeat (first | with_reducible exact Below.refl _ _ | with_reducible assumption | with_reducible refine Below.drew ?_ | with_reducible refine Below.drewN ?_ _ | with_reducible refine Below.alloc2 ?_ _ | with_reducible refine Below.alloc ?_ (by first | omega | (simp <;> omega)) _ | with_reducible refine Below.setCell ?_ (by first | omega | (simp <;> omega)) _ | with_reducible refine Below.step2 (by with_reducible assumption) ?_ | with_reducible refine Below.step (by with_reducible assumption) ?_ (by first | omega | (simp <;> omega))))); clear hb3)
                    have hm3 := HM2.out.below HS3.out HM2.out.lt
                    have hb3 := HB2.out.below HS3.out HB2.out.lt
                    have hz3 := HZ2.out.below HS3.out HZ2.out.lt
                    have hl3 : Below w.heap.size w w3 := Below.step2 HS3.out HL2.out
                    refine behind_ok ⟨⟨hm3, hb3⟩, ?_⟩
                    have hs1 := And.intro hm3 hb3
                    refine goes_takeE (i := 4) (E := [6]) (v := .int .i64 (x3 + G)) rfl (by kernel_rfl) rfl (fun _ _ _ h => h) (by intro w' hw'; obtain ⟨z0, z1, z2, z3⟩ := hw'.1.fourc; obtain ⟨y0, y1, y2, y3⟩ := hw'.2.fourc; go_simp) hs1 ?_
                    refine goes_takeE (i := 5) (E := [6]) (v := .pointer (some ⟨w.heap.size + 1, 3, none⟩)) rfl (by kernel_rfl) rfl (fun _ _ _ h => h) (by intro w' hw'; obtain ⟨z0, z1, z2, z3⟩ := hw'.1.fourc; obtain ⟨y0, y1, y2, y3⟩ := hw'.2.fourc; go_simp) hs1 ?_
                    clear hs1
                    obtain ⟨y0, y1, y2, y3⟩ := hb3.fourc
                    have fz := hb3.frozen 3
                    have HB3 := Lib.hid hb3
                    have HZ3 := Lib.hid hz3
                    have HL3 := Lib.hid hl3
                    clear hm3 hb3 hz3 hl3
                    refine goes_last (i := 6) rfl (by kernel_rfl) (by kernel_rfl) ?_
                    go_wp2_with fail
                    refine behind_ok (goes_done (by kernel_rfl) ?_)
                    go_wp2
                    go_roundw
                    case rel =>
                      refine ⟨k + 1, by omega, by go_num, x0 + xn, x1, x2, x3 + G, HCN, Bk.other HZ3.out (by simp) _, ?_, HL3.out.setCell (by simp) _⟩
                      simpa using Bk.set_ HB3.out 3 (.int .i64 (x3 + G))
                    case measure => simp [intOf]; omega)
        · have HCN : Hid (cnt 0 (l.take (k + 1)) p = x0 ∧ cnt 1 (l.take (k + 1)) p = x1 + xn ∧ cnt 2 (l.take (k + 1)) p = x2 ∧ stock (l.take (k + 1)) p = x3 + G) := Lib.hid (by simp at s0 s1 s2 s3; exact ⟨s0, s1, s2, s3⟩)
          have hw6 : IntKind.i64.wrap (x1 + xn) = x1 + xn := IntWalk.i64_in _ (by omega)
          clear s0 s1 s2 s3
          (
                    go_upto_region 6 with (fail)
                    obtain ⟨W0, hW0⟩ : ∃ W, W = wr.alloc (.cells #[.int .i64 xd, .int .i64 1, .string xp, .int .i64 xn] 90) := ⟨_, rfl⟩
                    rw [← hW0]
                    have hk1 := HK1.out
                    have hk0 := HK0.out
                    have hkm : Bk W0 wr.heap.size 90 #[.int .i64 xd, .int .i64 1, .string xp, .int .i64 xn] := by rw [hW0]; exact Bk.at_ rfl
                    have hkb : Bk W0 (w.heap.size + 1) 73 #[.int .i64 x0, .int .i64 x1, .int .i64 x2, .int .i64 x3] := by rw [hW0]; exact Bk.alloc hk1 _
                    have hkz : Bk W0 w.heap.size 73 #[.int .i64 0, .int .i64 0, .int .i64 0, .int .i64 0] := by rw [hW0]; exact Bk.alloc hk0 _
                    have hB0 : Below w.heap.size w W0 := by rw [hW0]; have hb0 := HB.out; exact (by repeat (first | with_reducible exact Below.refl _ _ | with_reducible assumption | with_reducible refine Below.drew ?_ | with_reducible refine Below.drewN ?_ _ | with_reducible refine Below.alloc2 ?_ _ | with_reducible refine Below.alloc ?_ (by first | omega | (simp <;> omega)) _ | with_reducible refine Below.setCell ?_ (by first | omega | (simp <;> omega)) _ | with_reducible refine Below.step2 (by with_reducible assumption) ?_ | with_reducible refine Below.step (by with_reducible assumption) ?_ (by first | omega | (simp <;> omega))))
                    have HKM := Lib.hid hkm
                    have HKB := Lib.hid hkb
                    have HKZ := Lib.hid hkz
                    have HB0 := Lib.hid hB0
                    have hs1 : Bk W0.drew wr.heap.size 90 #[.int .i64 xd, .int .i64 1, .string xp, .int .i64 xn] ∧ Bk W0.drew (w.heap.size + 1) 73 #[.int .i64 x0, .int .i64 x1, .int .i64 x2, .int .i64 x3] := ⟨hkm.drew, hkb.drew⟩
                    have fz := (hkb.drew).frozen 1
                    clear hk1 hk0 hkm hkb hkz hB0
                    refine region_goes (n := 9) (fun w' => Bk w' wr.heap.size 90 #[.int .i64 xd, .int .i64 1, .string xp, .int .i64 xn] ∧ Bk w' (w.heap.size + 1) 73 #[.int .i64 x0, .int .i64 x1, .int .i64 x2, .int .i64 x3]) [8] (by kernel_rfl) rfl ?_
                    refine goes_takeE (i := 0) (E := [1, 2, 3, 6, 7, 8]) (v := .pointer (some ⟨wr.heap.size, 1, none⟩)) rfl (by kernel_rfl) rfl (fun _ _ _ h => h) (by intro w' hw'; obtain ⟨z0, z1, z2, z3⟩ := hw'.1.fourc; obtain ⟨y0, y1, y2, y3⟩ := hw'.2.fourc; go_simp) hs1 ?_
                    refine goes_takeE (i := 1) (E := [2, 3, 6, 7, 8]) (v := .int .i64 1) rfl (by kernel_rfl) rfl (fun _ _ _ h => h) (by intro w' hw'; obtain ⟨z0, z1, z2, z3⟩ := hw'.1.fourc; obtain ⟨y0, y1, y2, y3⟩ := hw'.2.fourc; go_simp) hs1 ?_
                    refine goes_takeE (i := 2) (E := [3, 6, 8]) (v := .pointer (some ⟨w.heap.size + 1, 1, none⟩)) rfl (by kernel_rfl) rfl (fun _ _ _ h => h) (by intro w' hw'; obtain ⟨z0, z1, z2, z3⟩ := hw'.1.fourc; obtain ⟨y0, y1, y2, y3⟩ := hw'.2.fourc; go_simp) hs1 ?_
                    refine goes_takeE (i := 3) (E := [6, 8]) (v := .int .i64 x1) rfl (by kernel_rfl) rfl (fun _ _ _ h => h) (by intro w' hw'; obtain ⟨z0, z1, z2, z3⟩ := hw'.1.fourc; obtain ⟨y0, y1, y2, y3⟩ := hw'.2.fourc; go_simp) hs1 ?_
                    refine goes_takeE (i := 4) (E := [5, 6, 8]) (v := .pointer (some ⟨wr.heap.size, 3, none⟩)) rfl (by kernel_rfl) rfl (fun _ _ _ h => h) (by intro w' hw'; obtain ⟨z0, z1, z2, z3⟩ := hw'.1.fourc; obtain ⟨y0, y1, y2, y3⟩ := hw'.2.fourc; go_simp) hs1 ?_
                    refine goes_takeE (i := 5) (E := [6, 8]) (v := .int .i64 xn) rfl (by kernel_rfl) rfl (fun _ _ _ h => h) (by intro w' hw'; obtain ⟨z0, z1, z2, z3⟩ := hw'.1.fourc; obtain ⟨y0, y1, y2, y3⟩ := hw'.2.fourc; go_simp) hs1 ?_
                    refine goes_takeE (i := 6) (E := [8]) (v := .int .i64 (x1 + xn)) rfl (by kernel_rfl) rfl (fun _ _ _ h => h) (by intro w' hw'; obtain ⟨z0, z1, z2, z3⟩ := hw'.1.fourc; obtain ⟨y0, y1, y2, y3⟩ := hw'.2.fourc; go_simp) hs1 ?_
                    refine goes_takeE (i := 7) (E := [8]) (v := .pointer (some ⟨w.heap.size + 1, 1, none⟩)) rfl (by kernel_rfl) rfl (fun _ _ _ h => h) (by intro w' hw'; obtain ⟨z0, z1, z2, z3⟩ := hw'.1.fourc; obtain ⟨y0, y1, y2, y3⟩ := hw'.2.fourc; go_simp) hs1 ?_
                    clear hs1
                    obtain ⟨W1, hW1⟩ : ∃ W, W = W0.drew := ⟨_, rfl⟩
                    have hkm1 : Bk W1 wr.heap.size 90 #[.int .i64 xd, .int .i64 1, .string xp, .int .i64 xn] := by rw [hW1]; exact HKM.out.drew
                    have hkb1 : Bk W1 (w.heap.size + 1) 73 #[.int .i64 x0, .int .i64 x1, .int .i64 x2, .int .i64 x3] := by rw [hW1]; exact HKB.out.drew
                    have hkz1 : Bk W1 w.heap.size 73 #[.int .i64 0, .int .i64 0, .int .i64 0, .int .i64 0] := by rw [hW1]; exact HKZ.out.drew
                    have hbb1 : Below w.heap.size w W1 := by rw [hW1]; exact HB0.out.drew
                    rw [← hW1] at fz ⊢
                    obtain ⟨y0, y1, y2, y3⟩ := hkb1.fourc
                    have HKM1 := Lib.hid hkm1
                    have HKB1 := Lib.hid hkb1
                    have HKZ1 := Lib.hid hkz1
                    have HBB1 := Lib.hid hbb1
                    clear hkm1 hkb1 hkz1 hbb1 hW1 hW0
                    refine goes_last (i := 8) rfl (by kernel_rfl) (by kernel_rfl) ?_
                    go_wp2_with fail
                    refine behind_ok (goes_done (by kernel_rfl) ?_)
                    go_wp2
                    obtain ⟨W2, hW2⟩ : ∃ W, W = W1.setCell ⟨w.heap.size + 1, 1, none⟩ (.int .i64 (x1 + xn)) := ⟨_, rfl⟩
                    rw [← hW2]
                    have hk1 : Bk W2 (w.heap.size + 1) 73 #[.int .i64 (x0), .int .i64 (x1 + xn), .int .i64 (x2), .int .i64 x3] := by rw [hW2]; simpa using Bk.set_ HKB1.out 1 (.int .i64 (x1 + xn))
                    have hkm : Bk W2 wr.heap.size 90 #[.int .i64 xd, .int .i64 1, .string xp, .int .i64 xn] := by rw [hW2]; exact Bk.other HKM1.out (by simp; omega) _
                    have hkz : Bk W2 w.heap.size 73 #[.int .i64 0, .int .i64 0, .int .i64 0, .int .i64 0] := by rw [hW2]; exact Bk.other HKZ1.out (by simp) _
                    have hB2 : Below w.heap.size w W2 := by rw [hW2]; exact HBB1.out.setCell (by simp) _
                    have HB2 := Lib.hid hk1
                    have HM2 := Lib.hid hkm
                    have HZ2 := Lib.hid hkz
                    have HL2 := Lib.hid hB2
                    have hs1 : Bk W2.drew wr.heap.size 90 #[.int .i64 xd, .int .i64 1, .string xp, .int .i64 xn] ∧ Bk W2.drew (w.heap.size + 1) 73 #[.int .i64 (x0), .int .i64 (x1 + xn), .int .i64 (x2), .int .i64 x3] := ⟨hkm.drew, hk1.drew⟩
                    clear hk1 hkm hkz hB2 fz hW2
                    refine region_goes (n := 7) (fun w' => Bk w' wr.heap.size 90 #[.int .i64 xd, .int .i64 1, .string xp, .int .i64 xn] ∧ Bk w' (w.heap.size + 1) 73 #[.int .i64 (x0), .int .i64 (x1 + xn), .int .i64 (x2), .int .i64 x3]) [6] (by kernel_rfl) rfl ?_
                    refine goes_takeE (i := 0) (E := [1, 4, 6]) (v := .pointer (some ⟨w.heap.size + 1, 3, none⟩)) rfl (by kernel_rfl) rfl (fun _ _ _ h => h) (by intro w' hw'; obtain ⟨z0, z1, z2, z3⟩ := hw'.1.fourc; obtain ⟨y0, y1, y2, y3⟩ := hw'.2.fourc; go_simp) hs1 ?_
                    refine goes_takeE (i := 1) (E := [4, 6]) (v := .int .i64 x3) rfl (by kernel_rfl) rfl (fun _ _ _ h => h) (by intro w' hw'; obtain ⟨z0, z1, z2, z3⟩ := hw'.1.fourc; obtain ⟨y0, y1, y2, y3⟩ := hw'.2.fourc; go_simp) hs1 ?_
                    refine goes_takeE (i := 2) (E := [3, 4, 6]) (v := .agg #[.int .i64 xd, .int .i64 1, .string xp, .int .i64 xn]) rfl (by kernel_rfl) rfl (fun _ _ _ h => h) (by intro w' hw'; obtain ⟨z0, z1, z2, z3⟩ := hw'.1.fourc; obtain ⟨y0, y1, y2, y3⟩ := hw'.2.fourc; go_simp) hs1 ?_
                    clear hs1
                    refine goes_call (i := 3) rfl (by kernel_rfl) ?_
                    go_wp2_with (go_at_call 62; refine (GA.out _).mono ?_; rintro e w3 ⟨hb3, rfl⟩; have HS3 : Hid (Below W2.heap.size W2 w3) := Lib.hid (by exact (by repeat (first | with_reducible exact Below.refl _ _ | with_reducible assumption | with_reducible refine Below.drew ?_ | with_reducible refine Below.drewN ?_ _ | with_reducible refine Below.alloc2 ?_ _ | with_reducible refine Below.alloc ?_ (by first | omega | (simp <;> omega)) _ | with_reducible refine Below.setCell ?_ (by first | omega | (simp <;> omega)) _ | with_reducible refine Below.step2 (by with_reducible assumption) ?_ | with_reducible refine Below.step (by with_reducible assumption) ?_ (by first | omega | (simp <;> omega))))); clear hb3)
                    have hm3 := HM2.out.below HS3.out HM2.out.lt
                    have hb3 := HB2.out.below HS3.out HB2.out.lt
                    have hz3 := HZ2.out.below HS3.out HZ2.out.lt
                    have hl3 : Below w.heap.size w w3 := Below.step2 HS3.out HL2.out
                    refine behind_ok ⟨⟨hm3, hb3⟩, ?_⟩
                    have hs1 := And.intro hm3 hb3
                    refine goes_takeE (i := 4) (E := [6]) (v := .int .i64 (x3 + G)) rfl (by kernel_rfl) rfl (fun _ _ _ h => h) (by intro w' hw'; obtain ⟨z0, z1, z2, z3⟩ := hw'.1.fourc; obtain ⟨y0, y1, y2, y3⟩ := hw'.2.fourc; go_simp) hs1 ?_
                    refine goes_takeE (i := 5) (E := [6]) (v := .pointer (some ⟨w.heap.size + 1, 3, none⟩)) rfl (by kernel_rfl) rfl (fun _ _ _ h => h) (by intro w' hw'; obtain ⟨z0, z1, z2, z3⟩ := hw'.1.fourc; obtain ⟨y0, y1, y2, y3⟩ := hw'.2.fourc; go_simp) hs1 ?_
                    clear hs1
                    obtain ⟨y0, y1, y2, y3⟩ := hb3.fourc
                    have fz := hb3.frozen 3
                    have HB3 := Lib.hid hb3
                    have HZ3 := Lib.hid hz3
                    have HL3 := Lib.hid hl3
                    clear hm3 hb3 hz3 hl3
                    refine goes_last (i := 6) rfl (by kernel_rfl) (by kernel_rfl) ?_
                    go_wp2_with fail
                    refine behind_ok (goes_done (by kernel_rfl) ?_)
                    go_wp2
                    go_roundw
                    case rel =>
                      refine ⟨k + 1, by omega, by go_num, x0, x1 + xn, x2, x3 + G, HCN, Bk.other HZ3.out (by simp) _, ?_, HL3.out.setCell (by simp) _⟩
                      simpa using Bk.set_ HB3.out 3 (.int .i64 (x3 + G))
                    case measure => simp [intOf]; omega)
        · have HCN : Hid (cnt 0 (l.take (k + 1)) p = x0 ∧ cnt 1 (l.take (k + 1)) p = x1 ∧ cnt 2 (l.take (k + 1)) p = x2 + xn ∧ stock (l.take (k + 1)) p = x3 + G) := Lib.hid (by simp at s0 s1 s2 s3; exact ⟨s0, s1, s2, s3⟩)
          have hw6 : IntKind.i64.wrap (x2 + xn) = x2 + xn := IntWalk.i64_in _ (by omega)
          clear s0 s1 s2 s3
          (
                    go_upto_region 6 with (fail)
                    obtain ⟨W0, hW0⟩ : ∃ W, W = wr.alloc (.cells #[.int .i64 xd, .int .i64 2, .string xp, .int .i64 xn] 90) := ⟨_, rfl⟩
                    rw [← hW0]
                    have hk1 := HK1.out
                    have hk0 := HK0.out
                    have hkm : Bk W0 wr.heap.size 90 #[.int .i64 xd, .int .i64 2, .string xp, .int .i64 xn] := by rw [hW0]; exact Bk.at_ rfl
                    have hkb : Bk W0 (w.heap.size + 1) 73 #[.int .i64 x0, .int .i64 x1, .int .i64 x2, .int .i64 x3] := by rw [hW0]; exact Bk.alloc hk1 _
                    have hkz : Bk W0 w.heap.size 73 #[.int .i64 0, .int .i64 0, .int .i64 0, .int .i64 0] := by rw [hW0]; exact Bk.alloc hk0 _
                    have hB0 : Below w.heap.size w W0 := by rw [hW0]; have hb0 := HB.out; exact (by repeat (first | with_reducible exact Below.refl _ _ | with_reducible assumption | with_reducible refine Below.drew ?_ | with_reducible refine Below.drewN ?_ _ | with_reducible refine Below.alloc2 ?_ _ | with_reducible refine Below.alloc ?_ (by first | omega | (simp <;> omega)) _ | with_reducible refine Below.setCell ?_ (by first | omega | (simp <;> omega)) _ | with_reducible refine Below.step2 (by with_reducible assumption) ?_ | with_reducible refine Below.step (by with_reducible assumption) ?_ (by first | omega | (simp <;> omega))))
                    have HKM := Lib.hid hkm
                    have HKB := Lib.hid hkb
                    have HKZ := Lib.hid hkz
                    have HB0 := Lib.hid hB0
                    have hs1 : Bk W0.drew wr.heap.size 90 #[.int .i64 xd, .int .i64 2, .string xp, .int .i64 xn] ∧ Bk W0.drew (w.heap.size + 1) 73 #[.int .i64 x0, .int .i64 x1, .int .i64 x2, .int .i64 x3] := ⟨hkm.drew, hkb.drew⟩
                    have fz := (hkb.drew).frozen 2
                    clear hk1 hk0 hkm hkb hkz hB0
                    refine region_goes (n := 9) (fun w' => Bk w' wr.heap.size 90 #[.int .i64 xd, .int .i64 2, .string xp, .int .i64 xn] ∧ Bk w' (w.heap.size + 1) 73 #[.int .i64 x0, .int .i64 x1, .int .i64 x2, .int .i64 x3]) [8] (by kernel_rfl) rfl ?_
                    refine goes_takeE (i := 0) (E := [1, 2, 3, 6, 7, 8]) (v := .pointer (some ⟨wr.heap.size, 1, none⟩)) rfl (by kernel_rfl) rfl (fun _ _ _ h => h) (by intro w' hw'; obtain ⟨z0, z1, z2, z3⟩ := hw'.1.fourc; obtain ⟨y0, y1, y2, y3⟩ := hw'.2.fourc; go_simp) hs1 ?_
                    refine goes_takeE (i := 1) (E := [2, 3, 6, 7, 8]) (v := .int .i64 2) rfl (by kernel_rfl) rfl (fun _ _ _ h => h) (by intro w' hw'; obtain ⟨z0, z1, z2, z3⟩ := hw'.1.fourc; obtain ⟨y0, y1, y2, y3⟩ := hw'.2.fourc; go_simp) hs1 ?_
                    refine goes_takeE (i := 2) (E := [3, 6, 8]) (v := .pointer (some ⟨w.heap.size + 1, 2, none⟩)) rfl (by kernel_rfl) rfl (fun _ _ _ h => h) (by intro w' hw'; obtain ⟨z0, z1, z2, z3⟩ := hw'.1.fourc; obtain ⟨y0, y1, y2, y3⟩ := hw'.2.fourc; go_simp) hs1 ?_
                    refine goes_takeE (i := 3) (E := [6, 8]) (v := .int .i64 x2) rfl (by kernel_rfl) rfl (fun _ _ _ h => h) (by intro w' hw'; obtain ⟨z0, z1, z2, z3⟩ := hw'.1.fourc; obtain ⟨y0, y1, y2, y3⟩ := hw'.2.fourc; go_simp) hs1 ?_
                    refine goes_takeE (i := 4) (E := [5, 6, 8]) (v := .pointer (some ⟨wr.heap.size, 3, none⟩)) rfl (by kernel_rfl) rfl (fun _ _ _ h => h) (by intro w' hw'; obtain ⟨z0, z1, z2, z3⟩ := hw'.1.fourc; obtain ⟨y0, y1, y2, y3⟩ := hw'.2.fourc; go_simp) hs1 ?_
                    refine goes_takeE (i := 5) (E := [6, 8]) (v := .int .i64 xn) rfl (by kernel_rfl) rfl (fun _ _ _ h => h) (by intro w' hw'; obtain ⟨z0, z1, z2, z3⟩ := hw'.1.fourc; obtain ⟨y0, y1, y2, y3⟩ := hw'.2.fourc; go_simp) hs1 ?_
                    refine goes_takeE (i := 6) (E := [8]) (v := .int .i64 (x2 + xn)) rfl (by kernel_rfl) rfl (fun _ _ _ h => h) (by intro w' hw'; obtain ⟨z0, z1, z2, z3⟩ := hw'.1.fourc; obtain ⟨y0, y1, y2, y3⟩ := hw'.2.fourc; go_simp) hs1 ?_
                    refine goes_takeE (i := 7) (E := [8]) (v := .pointer (some ⟨w.heap.size + 1, 2, none⟩)) rfl (by kernel_rfl) rfl (fun _ _ _ h => h) (by intro w' hw'; obtain ⟨z0, z1, z2, z3⟩ := hw'.1.fourc; obtain ⟨y0, y1, y2, y3⟩ := hw'.2.fourc; go_simp) hs1 ?_
                    clear hs1
                    obtain ⟨W1, hW1⟩ : ∃ W, W = W0.drew := ⟨_, rfl⟩
                    have hkm1 : Bk W1 wr.heap.size 90 #[.int .i64 xd, .int .i64 2, .string xp, .int .i64 xn] := by rw [hW1]; exact HKM.out.drew
                    have hkb1 : Bk W1 (w.heap.size + 1) 73 #[.int .i64 x0, .int .i64 x1, .int .i64 x2, .int .i64 x3] := by rw [hW1]; exact HKB.out.drew
                    have hkz1 : Bk W1 w.heap.size 73 #[.int .i64 0, .int .i64 0, .int .i64 0, .int .i64 0] := by rw [hW1]; exact HKZ.out.drew
                    have hbb1 : Below w.heap.size w W1 := by rw [hW1]; exact HB0.out.drew
                    rw [← hW1] at fz ⊢
                    obtain ⟨y0, y1, y2, y3⟩ := hkb1.fourc
                    have HKM1 := Lib.hid hkm1
                    have HKB1 := Lib.hid hkb1
                    have HKZ1 := Lib.hid hkz1
                    have HBB1 := Lib.hid hbb1
                    clear hkm1 hkb1 hkz1 hbb1 hW1 hW0
                    refine goes_last (i := 8) rfl (by kernel_rfl) (by kernel_rfl) ?_
                    go_wp2_with fail
                    refine behind_ok (goes_done (by kernel_rfl) ?_)
                    go_wp2
                    obtain ⟨W2, hW2⟩ : ∃ W, W = W1.setCell ⟨w.heap.size + 1, 2, none⟩ (.int .i64 (x2 + xn)) := ⟨_, rfl⟩
                    rw [← hW2]
                    have hk1 : Bk W2 (w.heap.size + 1) 73 #[.int .i64 (x0), .int .i64 (x1), .int .i64 (x2 + xn), .int .i64 x3] := by rw [hW2]; simpa using Bk.set_ HKB1.out 2 (.int .i64 (x2 + xn))
                    have hkm : Bk W2 wr.heap.size 90 #[.int .i64 xd, .int .i64 2, .string xp, .int .i64 xn] := by rw [hW2]; exact Bk.other HKM1.out (by simp; omega) _
                    have hkz : Bk W2 w.heap.size 73 #[.int .i64 0, .int .i64 0, .int .i64 0, .int .i64 0] := by rw [hW2]; exact Bk.other HKZ1.out (by simp) _
                    have hB2 : Below w.heap.size w W2 := by rw [hW2]; exact HBB1.out.setCell (by simp) _
                    have HB2 := Lib.hid hk1
                    have HM2 := Lib.hid hkm
                    have HZ2 := Lib.hid hkz
                    have HL2 := Lib.hid hB2
                    have hs1 : Bk W2.drew wr.heap.size 90 #[.int .i64 xd, .int .i64 2, .string xp, .int .i64 xn] ∧ Bk W2.drew (w.heap.size + 1) 73 #[.int .i64 (x0), .int .i64 (x1), .int .i64 (x2 + xn), .int .i64 x3] := ⟨hkm.drew, hk1.drew⟩
                    clear hk1 hkm hkz hB2 fz hW2
                    refine region_goes (n := 7) (fun w' => Bk w' wr.heap.size 90 #[.int .i64 xd, .int .i64 2, .string xp, .int .i64 xn] ∧ Bk w' (w.heap.size + 1) 73 #[.int .i64 (x0), .int .i64 (x1), .int .i64 (x2 + xn), .int .i64 x3]) [6] (by kernel_rfl) rfl ?_
                    refine goes_takeE (i := 0) (E := [1, 4, 6]) (v := .pointer (some ⟨w.heap.size + 1, 3, none⟩)) rfl (by kernel_rfl) rfl (fun _ _ _ h => h) (by intro w' hw'; obtain ⟨z0, z1, z2, z3⟩ := hw'.1.fourc; obtain ⟨y0, y1, y2, y3⟩ := hw'.2.fourc; go_simp) hs1 ?_
                    refine goes_takeE (i := 1) (E := [4, 6]) (v := .int .i64 x3) rfl (by kernel_rfl) rfl (fun _ _ _ h => h) (by intro w' hw'; obtain ⟨z0, z1, z2, z3⟩ := hw'.1.fourc; obtain ⟨y0, y1, y2, y3⟩ := hw'.2.fourc; go_simp) hs1 ?_
                    refine goes_takeE (i := 2) (E := [3, 4, 6]) (v := .agg #[.int .i64 xd, .int .i64 2, .string xp, .int .i64 xn]) rfl (by kernel_rfl) rfl (fun _ _ _ h => h) (by intro w' hw'; obtain ⟨z0, z1, z2, z3⟩ := hw'.1.fourc; obtain ⟨y0, y1, y2, y3⟩ := hw'.2.fourc; go_simp) hs1 ?_
                    clear hs1
                    refine goes_call (i := 3) rfl (by kernel_rfl) ?_
                    go_wp2_with (go_at_call 62; refine (GA.out _).mono ?_; rintro e w3 ⟨hb3, rfl⟩; have HS3 : Hid (Below W2.heap.size W2 w3) := Lib.hid (by exact (by repeat (first | with_reducible exact Below.refl _ _ | with_reducible assumption | with_reducible refine Below.drew ?_ | with_reducible refine Below.drewN ?_ _ | with_reducible refine Below.alloc2 ?_ _ | with_reducible refine Below.alloc ?_ (by first | omega | (simp <;> omega)) _ | with_reducible refine Below.setCell ?_ (by first | omega | (simp <;> omega)) _ | with_reducible refine Below.step2 (by with_reducible assumption) ?_ | with_reducible refine Below.step (by with_reducible assumption) ?_ (by first | omega | (simp <;> omega))))); clear hb3)
                    have hm3 := HM2.out.below HS3.out HM2.out.lt
                    have hb3 := HB2.out.below HS3.out HB2.out.lt
                    have hz3 := HZ2.out.below HS3.out HZ2.out.lt
                    have hl3 : Below w.heap.size w w3 := Below.step2 HS3.out HL2.out
                    refine behind_ok ⟨⟨hm3, hb3⟩, ?_⟩
                    have hs1 := And.intro hm3 hb3
                    refine goes_takeE (i := 4) (E := [6]) (v := .int .i64 (x3 + G)) rfl (by kernel_rfl) rfl (fun _ _ _ h => h) (by intro w' hw'; obtain ⟨z0, z1, z2, z3⟩ := hw'.1.fourc; obtain ⟨y0, y1, y2, y3⟩ := hw'.2.fourc; go_simp) hs1 ?_
                    refine goes_takeE (i := 5) (E := [6]) (v := .pointer (some ⟨w.heap.size + 1, 3, none⟩)) rfl (by kernel_rfl) rfl (fun _ _ _ h => h) (by intro w' hw'; obtain ⟨z0, z1, z2, z3⟩ := hw'.1.fourc; obtain ⟨y0, y1, y2, y3⟩ := hw'.2.fourc; go_simp) hs1 ?_
                    clear hs1
                    obtain ⟨y0, y1, y2, y3⟩ := hb3.fourc
                    have fz := hb3.frozen 3
                    have HB3 := Lib.hid hb3
                    have HZ3 := Lib.hid hz3
                    have HL3 := Lib.hid hl3
                    clear hm3 hb3 hz3 hl3
                    refine goes_last (i := 6) rfl (by kernel_rfl) (by kernel_rfl) ?_
                    go_wp2_with fail
                    refine behind_ok (goes_done (by kernel_rfl) ?_)
                    go_wp2
                    go_roundw
                    case rel =>
                      refine ⟨k + 1, by omega, by go_num, x0, x1, x2 + xn, x3 + G, HCN, Bk.other HZ3.out (by simp) _, ?_, HL3.out.setCell (by simp) _⟩
                      simpa using Bk.set_ HB3.out 3 (.int .i64 (x3 + G))
                    case measure => simp [intOf]; omega)
    · have HCE : Hid (cnt 0 l p = x0 ∧ cnt 1 l p = x1 ∧ cnt 2 l p = x2 ∧ stock l p = x3) := Lib.hid (by
        have := HC.out
        rw [List.take_of_length_le (by rw [HLEN.out]; omega)] at this
        exact this)
      go_wp2
      have hb0 := HB.out
      refine bodyPost_ret (v := .agg #[.int .i64 x0, .int .i64 x1, .int .i64 x2, .int .i64 x3]) (by simp [results, Try.results67, go_sem, r0, r1, r2, r3]) rfl ⟨(by repeat (first | with_reducible exact Below.refl _ _ | with_reducible assumption | with_reducible refine Below.drew ?_ | with_reducible refine Below.drewN ?_ _ | with_reducible refine Below.alloc2 ?_ _ | with_reducible refine Below.alloc ?_ (by first | omega | (simp <;> omega)) _ | with_reducible refine Below.setCell ?_ (by first | omega | (simp <;> omega)) _ | with_reducible refine Below.step2 (by with_reducible assumption) ?_ | with_reducible refine Below.step (by with_reducible assumption) ?_ (by first | omega | (simp <;> omega)))), ?_⟩
      show _ = Ending.returned (.agg #[.int .i64 (cnt 0 l p), .int .i64 (cnt 1 l p), .int .i64 (cnt 2 l p), .int .i64 (stock l p)])
      rw [HCE.out.1, HCE.out.2.1, HCE.out.2.2.1, HCE.out.2.2.2]

end Go.Proofs.Ytbeijeblbchglaa
