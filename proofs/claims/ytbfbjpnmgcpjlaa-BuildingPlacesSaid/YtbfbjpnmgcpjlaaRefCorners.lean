/- The walk of the reference's Corners. -/
import Derived.Test.YtbfbjpnmgcpjlaaRefWalls
namespace Go.Proofs.Ytbfbjpnmgcpjlaa
open Go.RowKit

theorem i64_one (l : List Int) : ∀ u ∈ i64s l, u.oneCell' = true := by
  intro u hu; simp [i64s] at hu; obtain ⟨x, _, rfl⟩ := hu; rfl

set_option maxRecDepth 100000 in
set_option maxHeartbeats 8000000 in
theorem refCorners_any (A : Option Addr) (n c : Nat) (l : List (Int × Int)) (w : World) (h : Pts w w.heap.size A n c l) (hn : n ≤ 100) (hin : l.all inP = true) :
    Calls Try.prog 29 #[.slice A n c] w fun e w' => Below w.heap.size w w' ∧ ∃ A' c', e = .returned (.slice A' n c') ∧ Nums w' w'.heap.size A' n c' (bends (sides l)) := by
  have HLEN := Lib.hid h.len
  have HSL : Hid ((sides l).length = n) := Lib.hid (by rw [sides_length, h.len])
  have HWA := Lib.hid (fun (W : World) (hb : Below w.heap.size w W) => refWalls_any A n c l W (h.below hb (Nat.le_refl _) hb.size) hn hin)
  have HDI : Hid (∀ k, k < n → -1 ≤ (sd (sides l) k).dir ∧ (sd (sides l) k).dir ≤ 3) := Lib.hid (fun k hk => sides_dir (by rw [h.len]; exact hk))
  obtain ⟨i0, hi0, hz0, hz1, hz2⟩ := info_parts info_int
  have HI0 := Lib.hid hi0
  have HZ0 := Lib.hid hz0
  have HZ1 := Lib.hid hz1
  have HZ2 := Lib.hid hz2
  clear h hin hi0 hz0 hz1 hz2
  generalize sides l = ss at *
  go_enter Try.func29, Try.ntmps29
  go_wp2_with fail
  refine (HWA.out _ (by repeat (first | with_reducible exact Below.refl _ _ | with_reducible assumption | with_reducible refine Below.drew ?_ | with_reducible refine Below.drewN ?_ _ | with_reducible refine Below.alloc2 ?_ _ | with_reducible refine Below.alloc ?_ (by first | omega | (simp <;> omega)) _ | with_reducible refine Below.setCell ?_ (by first | omega | (simp <;> omega)) _ | with_reducible refine Below.step2 (by with_reducible assumption) ?_ | with_reducible refine Below.step (by with_reducible assumption) ?_ (by first | omega | (simp <;> omega))))).mono ?_
  rintro e w1 ⟨hb1, A1, c1, rfl, hw1⟩
  have hcap := hw1.cap
  have hmax := hw1.max
  have HB1 := Lib.hid hb1
  have HW1 := Lib.hid hw1
  have H : Hid (∀ w', Below w1.heap.size w1 w' → Walls w' w'.heap.size A1 n c1 ss) := fun w' hb => HW1.out.below hb (Nat.le_refl _) hb.size
  have H0 : Hid (∀ w', Below w1.heap.size w1 w' → Walls w' w1.heap.size A1 n c1 ss) := fun w' hb => HW1.out.below hb (Nat.le_refl _) (Nat.le_refl _)
  clear hb1 hw1
  go_wp2
  go_loopw [3, 5] (fun v i wr => ∃ k : Nat, k ≤ n ∧ i = .int .i64 k ∧ wr.ownsRow w1.heap.size 3 1 v k (i64s (bendsTo ss k)) ∧ Below w1.heap.size w1 wr) (fun _ i _ => n - (intOf i).toNat)
  case atStart => exact ⟨0, Nat.zero_le _, rfl, World.ownsRow_nil _ _ _ _, Below.refl _ _⟩
  case round =>
    obtain ⟨k, hk, rfl, hown, hb⟩ := hrel
    by_cases hlt : k < n
    · have hsz := hb.size
      obtain ⟨b, o, s, rfl, hbb, hx, -, -, -, -, -, c5⟩ := (H0.out _ hb).at_ hlt
      obtain ⟨b', o', t, e, hbb', hu, -, -, -, -, -, d5⟩ := (H0.out _ hb).at_ (pv_lt hlt)
      obtain ⟨rfl, rfl⟩ : b = b' ∧ o = o' := by simpa using e
      have HX := Lib.hid (sd_of hx)
      have hpd := HDI.out _ (pv_lt hlt)
      rw [sd_of hu] at hpd
      obtain ⟨hp1, hp2⟩ := hpd
      have HQ : Hid (bendK ss k = if s.dir = lefts t.dir then 1 else -1) := Lib.hid (by unfold bendK; rw [HX.out, HSL.out, sd_of hu])
      have hmod := pv_mod hlt
      have hj := pv_lt hlt
      have hn0 : ¬ n = 0 := by omega
      have HB := Lib.hid hb
      have HOWN := Lib.hid hown
      have ob : b < wr.heap.size := by omega
      have hlf : lefts t.dir = (t.dir + 1) % 4 := rfl
      generalize pv n k = j at *
      clear hx hu e hbb' hb hown
      by_cases hq : s.dir = lefts t.dir
      · have HC := Lib.hid hq
        have hq2 : ((t.dir + 1) % 4 == s.dir) = true := by rw [← hlf, hq]; simp
        clear hq hlf
        go_wp2_with (at_builtin; refine wpList_append_lies _ rfl _ _ _ rfl w1.heap.size 3 i0 _ 1 8 Try.underlying48 HI0.out HZ0.out HZ1.out HZ2.out rfl (by omega) u3 k _ rfl (HOWN.out.alloc _) ⟨wr.heap.size, 0, none⟩ 1 1 [.int .i64 1] rfl rfl (World.news_of_block (cs := #[.int .i64 1]) (t := 3) (fr := (0, 0)) (heap_alloc_new wr _)) (i64_one [1]) (by omega) (by unfold maxLen; omega) (by omega) (by simp; omega) (wr.heap.size + 1) (by simp) ?_; intro gg cap w4 hown4 hgrow hat hlt4)
        have HOW4 := Lib.hid hown4
        have HG4 := Lib.hid hgrow
        clear hown4 hgrow hat
        go_roundw
        case rel =>
          have hb := HB.out
          refine ⟨k + 1, by omega, by go_num, ?_, (hb.alloc hb.size _).grown HG4.out (by simp; omega) (fun g hg => (HOWN.out.lt g hg).1)⟩
          have := HOW4.out
          rw [bendsTo_succ, HQ.out, if_pos HC.out]
          simpa [i64s] using this
        case measure => simp [intOf]; omega
      · have HC := Lib.hid hq
        have hq2 : ((t.dir + 1) % 4 == s.dir) = false := by rw [← hlf, Bool.eq_false_iff]; simpa using fun e => hq e.symm
        clear hq hlf
        go_wp2_with (at_builtin; refine wpList_append_lies _ rfl _ _ _ rfl w1.heap.size 3 i0 _ 1 8 Try.underlying48 HI0.out HZ0.out HZ1.out HZ2.out rfl (by omega) u3 k _ rfl (HOWN.out.alloc _) ⟨wr.heap.size, 0, none⟩ 1 1 [.int .i64 (-1)] rfl rfl (World.news_of_block (cs := #[.int .i64 (-1)]) (t := 3) (fr := (0, 0)) (heap_alloc_new wr _)) (i64_one [(-1)]) (by omega) (by unfold maxLen; omega) (by omega) (by simp; omega) (wr.heap.size + 1) (by simp) ?_; intro gg cap w4 hown4 hgrow hat hlt4)
        have HOW4 := Lib.hid hown4
        have HG4 := Lib.hid hgrow
        clear hown4 hgrow hat
        go_roundw
        case rel =>
          have hb := HB.out
          refine ⟨k + 1, by omega, by go_num, ?_, (hb.alloc hb.size _).grown HG4.out (by simp; omega) (fun g hg => (HOWN.out.lt g hg).1)⟩
          have := HOW4.out
          rw [bendsTo_succ, HQ.out, if_neg HC.out]
          simpa [i64s] using this
        case measure => simp [intOf]; omega
    · have e : k = n := by omega
      subst e
      obtain ⟨A', c', rfl, hsl⟩ := Sl.of_own hown
      have HB := Lib.hid hb
      have HSN := Lib.hid hsl
      clear hb hsl hown
      go_wp2
      go_ret
      have hb1 := HB1.out
      have hb := HB.out
      refine ⟨(by repeat (first | with_reducible exact Below.refl _ _ | with_reducible assumption | with_reducible refine Below.drew ?_ | with_reducible refine Below.drewN ?_ _ | with_reducible refine Below.alloc2 ?_ _ | with_reducible refine Below.alloc ?_ (by first | omega | (simp <;> omega)) _ | with_reducible refine Below.setCell ?_ (by first | omega | (simp <;> omega)) _ | with_reducible refine Below.step2 (by with_reducible assumption) ?_ | with_reducible refine Below.step (by with_reducible assumption) ?_ (by first | omega | (simp <;> omega)))), A', c', rfl, ⟨?_⟩⟩
      unfold bends
      rw [HSL.out]
      exact HSN.out

end Go.Proofs.Ytbfbjpnmgcpjlaa
