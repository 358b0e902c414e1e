/- The walk of compareLimbs: limbs in normal form compare as their values do. -/
import Derived.Test.YtfnibkodccfocaaGreatLeaf
import Derived.Deep.QuietTactic
import Derived.BigQuiet
namespace Go.Proofs.YtfnibkodccfocaaGreat
open Go.RowKit

theorem cmp_top {a b : List Nat} (ha : Bd a) (hb : Bd b) (hl : a.length = b.length) {k x y : Nat} (hx : a[k]? = some x) (hy : b[k]? = some y) (hne : x ≠ y) (hd : a.drop (k + 1) = b.drop (k + 1)) :
    cmpN x y = cmpN (val a) (val b) := by
  obtain ⟨ka, rfl⟩ := List.getElem?_eq_some_iff.1 hx
  obtain ⟨kb, rfl⟩ := List.getElem?_eq_some_iff.1 hy
  rcases Nat.lt_or_ge a[k] b[k] with h | h
  · rw [cmpN_lt h, cmpN_lt (val_lt_of_top ha ka kb hl hd h)]
  · rw [cmpN_gt (by omega), cmpN_gt (val_lt_of_top hb kb ka hl.symm hd.symm (by omega))]

/-- A call that leaves the world alone, met behind draws in a region that only reads. -/
theorem quiet_add_left {P : Program} {f : FuncId} {args : Array Value} {w : World} {a n : Nat} {v : Value}
    (h : Calls P f args (w.drewN (a + n)) fun e w' => w.drewN (a + n) = w' ∧ e = .returned v) :
    Calls P f args (w.drewN (a + n)) fun e w'' => e = .returned v ∧ ∃ m, w'' = w.drewN (a + m) :=
  h.mono fun _ _ ⟨hm, he⟩ => ⟨he, n, hm.symm⟩
theorem quiet_left {P : Program} {f : FuncId} {args : Array Value} {w : World} {n : Nat} {v : Value}
    (h : Calls P f args (w.drewN n) fun e w' => w.drewN n = w' ∧ e = .returned v) : Calls P f args (w.drewN n) fun e w'' => e = .returned v ∧ ∃ m, w'' = w.drewN m :=
  h.mono fun _ _ ⟨hm, he⟩ => ⟨he, n, hm.symm⟩

set_option maxHeartbeats 1000000 in
theorem compareLimbs_any (A A2 : Option Addr) (n c m d : Nat) (a b : List Nat) (B B2 : Nat) (w : World) (ha : Lim w B A n c a) (hb : Lim w B2 A2 m d b) (na : Norm a) (nb : Norm b) :
    Calls Tryz.prog 60 #[.slice A n c, .slice A2 m d] w fun e w' => e = .returned (.int .i64 (cmpN (val a) (val b))) ∧ ∃ k, w' = w.drewN k := by
  have hcap := ha.cap
  have hmax := ha.max
  have hcap2 := hb.cap
  have hmax2 := hb.max
  have hla := Lib.hid ha.len
  have hlb := Lib.hid hb.len
  by_cases hne : n = m
  · subst hne
    have hba := Lib.hid ha.bd
    have hbb := Lib.hid hb.bd
    go_enter Tryz.func60, Tryz.ntmps60
    go_wp2_with fail
    go_loopw [5] (fun i wr => ∃ j : Int, -1 ≤ j ∧ j < (n : Int) ∧ i = .int .i64 j ∧ Hid (a.drop (j + 1).toNat = b.drop (j + 1).toNat) ∧ ∃ q, wr = w.drewN q) (fun i _ => (intOf i + 1).toNat)
    case atStart =>
      refine ⟨(n : Int) - 1, by omega, by omega, rfl, ?_, 0, rfl⟩
      rw [show ((n : Int) - 1 + 1).toNat = n from by omega, List.drop_of_length_le (by rw [hla.out]; exact Nat.le_refl _), List.drop_of_length_le (by rw [hlb.out]; exact Nat.le_refl _)]
      exact rfl
    case round =>
      obtain ⟨j, hj1, hj2, rfl, hd, q, rfl⟩ := hrel
      rcases Int.lt_or_le j 0 with h0 | h0
      · have hv : a = b := by
          have := hd.out
          rw [show (j + 1).toNat = 0 from by omega] at this
          simpa using this
        have HV := Lib.hid hv
        clear hd hv
        go_wp2
        go_ret
        exact ⟨by rw [HV.out, cmpN_self]; rfl, q, rfl⟩
      · obtain ⟨k, rfl⟩ : ∃ k : Nat, j = (k : Int) := ⟨j.toNat, by omega⟩
        obtain ⟨b1, o1, x, rfl, hb1, hx, hxb, hc1⟩ := ha.at_ (k := k) (by omega)
        obtain ⟨b2, o2, y, rfl, hb2, hy, hyb, hc2⟩ := hb.at_ (k := k) (by omega)
        have HX := Lib.hid hx
        have HY := Lib.hid hy
        have hcmp := cmpI_cast x y
        have HC := Lib.hid hcmp
        clear hx hy hcmp
        have hk1 : k < n := by omega
        by_cases hxy : x = y
        · subst hxy
          go_wp2
          go_quiet (fail)
          go_wp2
          go_roundw
          case rel =>
            refine ⟨(k : Int) - 1, by omega, by omega, rfl, ?_, _, rfl⟩
            have h1 := hd.out
            rw [show ((k : Int) + 1).toNat = k + 1 from by omega] at h1
            have e1 := List.drop_eq_getElem_cons (i := k) (l := a) (by rw [hla.out]; exact hk1)
            have e2 := List.drop_eq_getElem_cons (i := k) (l := b) (by rw [hlb.out]; exact hk1)
            have g1 := (List.getElem?_eq_some_iff.1 HX.out).2
            have g2 := (List.getElem?_eq_some_iff.1 HY.out).2
            rw [show ((k : Int) - 1 + 1).toNat = k from by omega, e1, e2, g1, g2, h1]
            exact rfl
          case measure => simp [intOf]
        · have hne : ((x : Int) != (y : Int)) = true := by simp; omega
          go_wp2
          go_quiet (fail)
          go_wp2
          go_quiet ((go_at_call 94; exact quiet_add_left (cmp_u32_any _ _ _)))
          go_wp2
          go_ret
          refine ⟨?_, _, by rw [World.drewN_drewN, World.drewN_drewN]⟩
          have h1 := hd.out
          rw [show ((k : Int) + 1).toNat = k + 1 from by omega] at h1
          exact ret_int (HC.out.trans (cmp_top hba.out hbb.out (hla.out.trans hlb.out.symm) HX.out HY.out hxy h1))
  · have hn2 : ((n : Int) != (m : Int)) = true := by simp; omega
    have hcmp : cmpI n m = cmpN (val a) (val b) := by
      rw [cmpI_cast]
      rcases Nat.lt_or_ge n m with h1 | h1
      · rw [cmpN_lt h1, cmpN_lt (norm_len_lt ha.bd nb (by rw [hla.out, hlb.out]; exact h1))]
      · rw [cmpN_gt (by omega), cmpN_gt (norm_len_lt hb.bd na (by rw [hla.out, hlb.out]; omega))]
    have HC := Lib.hid hcmp
    clear hcmp ha hb na nb
    go_enter Tryz.func60, Tryz.ntmps60
    go_wp2_with (go_at_call 93; refine (cmp_int_any _ _ _).mono ?_; rintro e w' ⟨rfl, rfl⟩)
    go_ret
    exact ⟨ret_int HC.out, 0, rfl⟩

end Go.Proofs.YtfnibkodccfocaaGreat
