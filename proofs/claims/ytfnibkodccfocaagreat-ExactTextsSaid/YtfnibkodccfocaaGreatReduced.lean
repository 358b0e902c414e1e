/- The walk of reduced. -/
import Derived.Test.YtfnibkodccfocaaGreatQuotient
import Derived.Test.YtfnibkodccfocaaGreatWord
namespace Go.Proofs.YtfnibkodccfocaaGreat
open Go.RowKit

set_option maxRecDepth 100000 in
theorem reduced_any (n c m c2 : Nat) (A A2 : Option Addr) (a b : List Nat) (w : World) (ha : Lim w w.heap.size A n c a) (na : Norm a) (hb : Lim w w.heap.size A2 m c2 b) (nb : Norm b) (hpos : 0 < val b) (hn : n ≤ 536870912) :
    Calls Tryz.prog 99 #[.slice A n c, .slice A2 m c2] w (NatR (val a / val b) w) := by
  have HA := Lib.hid ha
  have HBB := Lib.hid hb
  have HP := Lib.hid hpos
  clear ha hb hpos
  go_enter Tryz.func99, Tryz.ntmps99
  go_wp2_with fail
  refine (isOne_any A2 m c2 b _ w HBB.out).mono ?_
  rintro e w1 ⟨rfl, rfl⟩
  by_cases h1 : b = [1]
  · have hd : decide (b = [1]) = true := by simpa using h1
    rw [hd]
    have hx : Hid (val a / val b = val a) := by
      show _ = _
      rw [h1]; simp [val]
    clear hd h1
    go_wp2_with fail
    refine (clone_any A n c a _ w HA.out (Nat.le_refl _) (by omega)).mono ?_
    rintro e w2 ⟨hb2, v, rfl, hv⟩
    obtain ⟨A', c', rfl, hl⟩ := hv.lim (Nat.le_refl _)
    clear hv
    go_wp2
    go_ret
    exact ⟨hb2, A', _, c', a, rfl, hl, na, hx.out.symm⟩
  · have hd : decide (b = [1]) = false := by simpa using h1
    rw [hd]
    clear hd h1
    go_wp2_with fail
    refine (divideLimbs_any n c m c2 A A2 a b w HA.out na HBB.out nb HP.out hn).mono ?_
    rintro e w2 ⟨hb2, vq, vr, rfl, ⟨Aq, nq, cq, lq, rfl, hlq, hnq, hvq⟩, ⟨Ar, nr, cr, lr, rfl, -, -, -⟩⟩
    have HQ := Lib.hid hlq
    have HV := Lib.hid hvq
    clear hlq hvq
    go_wp2
    go_ret
    exact ⟨hb2, Aq, nq, cq, lq, rfl, HQ.out, hnq, HV.out⟩

end Go.Proofs.YtfnibkodccfocaaGreat
