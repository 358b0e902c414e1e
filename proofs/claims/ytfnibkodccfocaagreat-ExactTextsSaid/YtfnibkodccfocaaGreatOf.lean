/- The walk of Of. -/
import Derived.Test.YtfnibkodccfocaaGreatSum
namespace Go.Proofs.YtfnibkodccfocaaGreat
open Go.RowKit


set_option maxHeartbeats 2000000 in
theorem of_nonneg (x : Nat) (w : World) (hx : x ≤ 9223372036854775807) :
    Calls Tryz.prog 12 #[.int .i64 (x : Int)] w (IntR (x : Int) w) := by
  have hd : decide ((x : Int) < 0) = false := by simp
  go_enter Tryz.func12, Tryz.ntmps12
  go_wp2_with fail
  refine (limbsOf_any x _ (by omega)).mono ?_
  rintro e w1 ⟨hb1, A, q, c, l, rfl, hl, hn, hv⟩
  have HL := Lib.hid hl
  have HV := Lib.hid hv
  clear hl hv
  go_wp2_with fail
  refine (signed_any _ _ _ _ _).mono ?_
  rintro e w2 ⟨rfl, hb2⟩
  have hz1 : w.heap.size + 1 ≤ w1.heap.size := by have := hb1.size; simpa using this
  have k2 : Bk w2 w.heap.size 24 #[.bool false, .slice none 0 0] := (hb2.block _ (by omega)).trans ((hb1.block _ (by simp)).trans (Bk.alloc_ _ _ _))
  have e0 : w2.cell? ⟨w.heap.size, 0, none⟩ = some (.bool false) := by simpa using k2.cell 0
  have e1 : w2.cell? ⟨w.heap.size, 1, none⟩ = some (.slice none 0 0) := by simpa using k2.cell 1
  have f0 := k2.frozen 0
  have f1 := k2.frozen 1
  have hbel : Below w.heap.size w w2 := (((Below.refl _ _).alloc (Nat.le_refl _) _).trans (hb1.mono (by simp))).trans (hb2.mono (by omega))
  have hlim := ((HL.out.below hb2 (Nat.le_refl _) (Nat.le_refl _)).mono hb2.size).past k2 (.bool (false && decide (0 < q))) (.slice A q c)
  have HLIM := Lib.hid hlim
  clear hlim k2
  go_wp2
  refine bodyPost_ret (v := .agg #[.bool (false && decide (0 < q)), .slice A q c]) (by simp [results, Tryz.results12, go_sem, e0, e1]) rfl ⟨(hbel.setCell (Nat.le_refl _) _).setCell (Nat.le_refl _) _, _, rfl, mkInt (HLIM.out.mono (by simp)) hn (by rw [HV.out]; rfl)⟩

set_option maxHeartbeats 2000000 in
theorem of_neg (x : Nat) (w : World) (h0 : 0 < x) (hx : x ≤ 9223372036854775808) :
    Calls Tryz.prog 12 #[.int .i64 (-(x : Int))] w (IntR (-(x : Int)) w) := by
  have hd : decide (-(x : Int) < 0) = true := by simp; omega
  go_enter Tryz.func12, Tryz.ntmps12
  have hw : IntKind.u64.wrap (-IntKind.u64.wrap (-(x : Int))) = (x : Int) := by rw [IntKind.wrap_u64, IntKind.wrap_u64]; omega
  go_wp2_with fail
  refine (limbsOf_any x _ (by omega)).mono ?_
  rintro e w1 ⟨hb1, A, q, c, l, rfl, hl, hn, hv⟩
  have HL := Lib.hid hl
  have HV := Lib.hid hv
  clear hl hv
  go_wp2_with fail
  refine (signed_any _ _ _ _ _).mono ?_
  rintro e w2 ⟨rfl, hb2⟩
  have hz1 : w.heap.size + 1 ≤ w1.heap.size := by have := hb1.size; simpa using this
  have k2 : Bk w2 w.heap.size 24 #[.bool false, .slice none 0 0] := (hb2.block _ (by omega)).trans ((hb1.block _ (by simp)).trans (Bk.alloc_ _ _ _))
  have e0 : w2.cell? ⟨w.heap.size, 0, none⟩ = some (.bool false) := by simpa using k2.cell 0
  have e1 : w2.cell? ⟨w.heap.size, 1, none⟩ = some (.slice none 0 0) := by simpa using k2.cell 1
  have f0 := k2.frozen 0
  have f1 := k2.frozen 1
  have hbel : Below w.heap.size w w2 := (((Below.refl _ _).alloc (Nat.le_refl _) _).trans (hb1.mono (by simp))).trans (hb2.mono (by omega))
  have hlim := ((HL.out.below hb2 (Nat.le_refl _) (Nat.le_refl _)).mono hb2.size).past k2 (.bool (true && decide (0 < q))) (.slice A q c)
  have HLIM := Lib.hid hlim
  clear hlim k2
  go_wp2
  refine bodyPost_ret (v := .agg #[.bool (true && decide (0 < q)), .slice A q c]) (by simp [results, Tryz.results12, go_sem, e0, e1]) rfl ⟨(hbel.setCell (Nat.le_refl _) _).setCell (Nat.le_refl _) _, _, rfl, mkInt (HLIM.out.mono (by simp)) hn (by rw [HV.out]; rfl)⟩

theorem of_any (n : Int) (w : World) (h1 : -9223372036854775808 ≤ n) (h2 : n ≤ 9223372036854775807) : Calls Tryz.prog 12 #[.int .i64 n] w (IntR n w) := by
  rcases Int.lt_or_le n 0 with h | h
  · obtain ⟨x, rfl⟩ : ∃ x : Nat, n = -(x : Int) := ⟨(-n).toNat, by omega⟩
    exact of_neg x w (by omega) (by omega)
  · obtain ⟨x, rfl⟩ : ∃ x : Nat, n = (x : Int) := ⟨n.toNat, by omega⟩
    exact of_nonneg x w (by omega)

end Go.Proofs.YtfnibkodccfocaaGreat
