/- The walk of Small. -/
import Derived.Test.YtfnibkodccfocaaGreatDivideInt
import Derived.Test.YtfnibkodccfocaaGreatWord
namespace Go.Proofs.YtfnibkodccfocaaGreat
open Go.RowKit

/-- What Small answers. -/
def smallV (z : Int) : Value := if -9223372036854775808 ≤ z ∧ z ≤ 9223372036854775807 then .tuple #[.int .i64 z, .bool true] else .tuple #[.int .i64 0, .bool false]
theorem smallV_in {z : Int} (h1 : -9223372036854775808 ≤ z) (h2 : z ≤ 9223372036854775807) : smallV z = .tuple #[.int .i64 z, .bool true] := if_pos ⟨h1, h2⟩
theorem smallV_out {z : Int} (h : z < -9223372036854775808 ∨ 9223372036854775807 < z) : smallV z = .tuple #[.int .i64 0, .bool false] := if_neg (by omega)

set_option maxRecDepth 100000 in
set_option maxHeartbeats 4000000 in
theorem small_any (s : Bool) (A : Option Addr) (n c : Nat) (l : List Nat) (w : World) (h : Lim w w.heap.size A n c l) :
    Calls Tryz.prog 9 #[.agg #[.bool s, .slice A n c]] w fun e w' => e = .returned (smallV (sg s (val l))) ∧ Below w.heap.size w w' := by
  have H1 : Hid (∀ w', Below w.heap.size w w' → Lim w' w'.heap.size A n c l) := fun w' hb => h.below hb (Nat.le_refl _) hb.size
  have HN := Lib.hid h.len
  clear h
  go_enter Tryz.func9, Tryz.ntmps9
  go_wp2_with fail
  refine (read_any s A n c l _ (H1.out _ (by repeat (first | exact Below.refl _ _ | assumption | refine Below.drew ?_ | refine Below.drewN ?_ _ | refine Below.alloc ?_ (by simp <;> omega) _ | refine Below.setCell ?_ (by simp <;> omega) _)))).mono ?_
  rintro e wa ⟨hba, sa, m, rfl, hm, hv, hn, rfl⟩
  have k : Bk wa w.heap.size 24 #[.bool s, .slice A n c] := (hba.block _ (by simp)).trans (Bk.alloc_ _ _ _)
  obtain ⟨z1, p1⟩ := sg_read (s := s) hv hn (by rw [HN.out]; exact hm)
  have hbel : Below w.heap.size w wa := ((Below.refl _ _).alloc (Nat.le_refl _) _).trans (hba.mono (by simp))
  have L1 := (H1.out wa hbel).take hm
  generalize (s && decide (0 < m)) = t at z1 p1
  have e0 : wa.cell? ⟨w.heap.size, 0, none⟩ = some (.bool s) := by simpa using k.cell 0
  have e1 : wa.cell? ⟨w.heap.size, 1, none⟩ = some (.slice A n c) := by simpa using k.cell 1
  have f0 := k.frozen 0
  have f1 := k.frozen 1
  have L2 := L1.past k (.bool t) (.slice A m c)
  have HB := Lib.hid hbel
  have hlen := L1.len
  generalize hq : val (l.take m) = v at p1 z1
  have P1 := Lib.hid p1
  have Z1 := Lib.hid z1
  have HQ := Lib.hid hq
  have LL2 := Lib.hid L2
  clear hbel L1 L2 p1 hq z1 hv k
  by_cases h2 : m ≤ 2
  · have hd : decide ((2 : Int) < (m : Int)) = false := by simp; omega
    have hv2 : v < 18446744073709551616 := by
      have h1 := val_lt LL2.out.bd
      rw [HQ.out, hlen] at h1
      have h3 : W m ≤ W 2 := W_mono h2
      have h4 : W 2 = 18446744073709551616 := by decide
      omega
    have HV2 := Lib.hid hv2
    clear hv2
    go_wp2_with fail
    refine (word_any A m c _ _ _ LL2.out h2).mono ?_
    rintro e w1 ⟨rfl, rfl⟩
    rw [HQ.out]
    have HBE := Lib.hid ((HB.out.setCell (p := ⟨w.heap.size, 0, none⟩) (Nat.le_refl _) (.bool t)).setCell (p := ⟨w.heap.size, 1, none⟩) (Nat.le_refl _) (.slice A m c))
    have hw : IntKind.i64.wrap (v : Int) = if v < 9223372036854775808 then (v : Int) else (v : Int) - 18446744073709551616 := by
      rw [IntKind.wrap_i64]; have := HV2.out; split <;> omega
    rcases Nat.lt_trichotomy v 9223372036854775808 with hlt | heq | hgt
    · have hc1 : decide ((v : Int) ≤ 9223372036854775807) = true := by simp; omega
      rw [if_pos hlt] at hw
      have hw2 : IntKind.i64.wrap (-(v : Int)) = -(v : Int) := by rw [IntKind.wrap_i64]; omega
      cases t
      · have hz : smallV (sg s (val l)) = .tuple #[.int .i64 (v : Int), .bool true] := by rw [← Z1.out, sg_false, smallV_in (by omega) (by omega)]
        have HZ := Lib.hid hz
        clear hz
        go_wp2
        refine bodyPost_ret (v := .tuple #[.int .i64 (v : Int), .bool true]) (by simp [results, Tryz.results9, go_sem]) rfl ⟨by rw [HZ.out], HBE.out⟩
      · have hz : smallV (sg s (val l)) = .tuple #[.int .i64 (-(v : Int)), .bool true] := by rw [← Z1.out, sg_true, smallV_in (by omega) (by omega)]
        have HZ := Lib.hid hz
        clear hz
        go_wp2
        refine bodyPost_ret (v := .tuple #[.int .i64 (-(v : Int)), .bool true]) (by simp [results, Tryz.results9, go_sem]) rfl ⟨by rw [HZ.out], HBE.out⟩
    · subst heq
      clear hw
      cases t
      · have hz : smallV (sg s (val l)) = .tuple #[.int .i64 0, .bool false] := by rw [← Z1.out, sg_false, smallV_out (by omega)]
        have HZ := Lib.hid hz
        clear hz
        go_wp2
        refine bodyPost_ret (v := .tuple #[.int .i64 0, .bool false]) (by simp [results, Tryz.results9, go_sem]) rfl ⟨by rw [HZ.out], HBE.out⟩
      · have hz : smallV (sg s (val l)) = .tuple #[.int .i64 (-9223372036854775808), .bool true] := by rw [← Z1.out, sg_true, smallV_in (by omega) (by omega)]; rfl
        have HZ := Lib.hid hz
        clear hz
        go_wp2
        refine bodyPost_ret (v := .tuple #[.int .i64 (-9223372036854775808), .bool true]) (by simp [results, Tryz.results9, go_sem]) rfl ⟨by rw [HZ.out], HBE.out⟩
    · have hc1 : decide ((v : Int) ≤ 9223372036854775807) = false := by simp; omega
      have hc2 : ((v : Int) == 9223372036854775808) = false := by simp; omega
      have hz : smallV (sg s (val l)) = .tuple #[.int .i64 0, .bool false] := by
        rw [← Z1.out]; cases t
        · rw [sg_false, smallV_out (by omega)]
        · rw [sg_true, smallV_out (by omega)]
      have HZ := Lib.hid hz
      clear hz hw
      go_wp2
      refine bodyPost_ret (v := .tuple #[.int .i64 0, .bool false]) (by simp [results, Tryz.results9, go_sem]) rfl ⟨by rw [HZ.out], HBE.out⟩
  · have hd : decide ((2 : Int) < (m : Int)) = true := by simp; omega
    have hbig : 18446744073709551616 ≤ v := by
      have h1 := norm_pos hn (by intro e; rw [e] at hlen; simp at hlen; omega)
      rw [hlen, HQ.out] at h1
      have h3 : W 2 ≤ W (m - 1) := W_mono (by omega)
      have h4 : W 2 = 18446744073709551616 := by decide
      omega
    have hz : smallV (sg s (val l)) = .tuple #[.int .i64 0, .bool false] := by
      rw [← Z1.out]; cases t
      · rw [sg_false, smallV_out (by omega)]
      · rw [sg_true, smallV_out (by omega)]
    have HBE := Lib.hid ((HB.out.setCell (p := ⟨w.heap.size, 0, none⟩) (Nat.le_refl _) (.bool t)).setCell (p := ⟨w.heap.size, 1, none⟩) (Nat.le_refl _) (.slice A m c))
    have HZ := Lib.hid hz
    clear hz hbig
    go_wp2
    refine bodyPost_ret (v := .tuple #[.int .i64 0, .bool false]) (by simp [results, Tryz.results9, go_sem]) rfl ⟨by rw [HZ.out], HBE.out⟩

end Go.Proofs.YtfnibkodccfocaaGreat
