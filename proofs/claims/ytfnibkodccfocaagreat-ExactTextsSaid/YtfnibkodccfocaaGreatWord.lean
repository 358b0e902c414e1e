/- The walks of word and commonWord, and of Clone for limbs. -/
import Derived.Test.YtfnibkodccfocaaGreatDivideLimbs
import Derived.Lib.LazyBuf
namespace Go.Proofs.YtfnibkodccfocaaGreat
open Go.RowKit

set_option maxRecDepth 100000 in
set_option maxHeartbeats 1000000 in
theorem word_any (A : Option Addr) (n c : Nat) (l : List Nat) (B : Nat) (w : World) (h : Lim w B A n c l) (hn : n ≤ 2) :
    Calls Tryz.prog 53 #[.slice A n c] w fun e w' => w = w' ∧ e = .returned (.int .u64 (val l : Int)) := by
  have hlen := Lib.hid h.len
  go_enter Tryz.func53, Tryz.ntmps53
  go_wp2
  go_loop [3, 8] (fun v i => ∃ k : Nat, k ≤ n ∧ i = .int .i64 (k : Int) ∧ v = .int .u64 (val (l.take k) : Int)) (fun _ i => n - (intOf i).toNat)
  case atStart => exact ⟨0, Nat.zero_le _, rfl, rfl⟩
  case round =>
    obtain ⟨k, hk, rfl, rfl⟩ := hrel
    by_cases hlt : k < n
    · obtain ⟨b, o, x, rfl, hb, hx, hxb, hc⟩ := h.at_ (k := k) hlt
      have hv := val_take_get l hx
      have hp := val_lt (h.bd.take k)
      have hpl : (l.take k).length = k := by rw [List.length_take, hlen.out]; omega
      rw [hpl] at hp
      generalize val (l.take k) = p at hv hp
      have hk2 : k = 0 ∨ k = 1 := by omega
      rcases hk2 with rfl | rfl
      · rw [Nat.add_zero] at hc
        obtain rfl : p = 0 := by simp [W_zero] at hp; exact hp
        have h1 : bits .or .u64 0 (x : Int) = (x : Int) := by
          have := u64_or_nat 0 x (by omega) (by omega)
          rw [Nat.zero_or] at this
          exact this
        have HV : Hid (val (l.take 1) = x) := by show _ = _; rw [hv, W_zero]; omega
        clear hx hv
        go_wp2
        go_round
        case rel => exact ⟨1, hlt, rfl, by rw [HV.out]⟩
        case measure => simp [intOf]; omega
      · have hp2 : p < 4294967296 := hp
        have h1 : bits .or .u64 (p : Int) ((x : Int) * 4294967296) = ((p + 4294967296 * x : Nat) : Int) := by
          have e : (x : Int) * 4294967296 = ((x * 4294967296 : Nat) : Int) := by simp
          rw [e, u64_or_nat _ _ (by omega) (by omega), Nat.or_comm, nat_join 32 _ _ (by omega) hp2]
          congr 1; omega
        have HV : Hid (val (l.take 2) = p + 4294967296 * x) := by show _ = _; rw [hv]; rfl
        clear hx hv
        generalize p + 4294967296 * x = z at h1 HV
        go_wp2
        go_round
        case rel => exact ⟨2, hlt, rfl, by rw [HV.out]⟩
        case measure => simp [intOf]; omega
    · obtain rfl : k = n := by omega
      have hv : Hid (val (l.take k) = val l) := val_take_all hlen.out
      go_wp2
      go_ret
      exact ⟨rfl, by rw [hv.out]; rfl⟩

set_option maxRecDepth 100000 in
set_option maxHeartbeats 1000000 in
theorem commonWord_any (x y : Nat) (w : World) (hx : x < 18446744073709551616) (hy : y < 18446744073709551616) :
    Calls Tryz.prog 122 #[.int .u64 (x : Int), .int .u64 (y : Int)] w fun e w' => e = .returned (.int .u64 (Nat.gcd x y : Int)) ∧ ∃ k, w' = w.drewN k := by
  go_enter Tryz.func122, Tryz.ntmps122
  go_wp2
  go_loopw [0, 1] (fun a b wr => ∃ p q : Nat, a = .int .u64 (p : Int) ∧ b = .int .u64 (q : Int) ∧ p < 18446744073709551616 ∧ q < 18446744073709551616 ∧ Hid (Nat.gcd x y = Nat.gcd p q) ∧ ∃ k, wr = w.drewN k) (fun _ b _ => (intOf b).toNat)
  case atStart => exact ⟨x, y, rfl, rfl, hx, hy, rfl, 0, rfl⟩
  case round =>
    obtain ⟨p, q, rfl, rfl, hp, hq, hg, k, rfl⟩ := hrel
    rcases Nat.eq_zero_or_pos q with h0 | h0
    · subst h0
      have hg2 : Hid (Nat.gcd x y = p) := by show _ = _; rw [hg.out, Nat.gcd_zero_right]
      go_wp2
      go_ret
      exact ⟨by rw [hg2.out]; rfl, k, rfl⟩
    · have h1 : ((q : Int) == 0) = false := by simp; omega
      have h2 : 0 < (q : Int) := by omega
      have e1 : (p : Int) % (q : Int) = ((p % q : Nat) : Int) := (Int.natCast_emod _ _).symm
      have hlt := Nat.mod_lt p h0
      have hg2 : Hid (Nat.gcd x y = Nat.gcd q (p % q)) := by
        show _ = _
        rw [hg.out, Nat.gcd_comm q, ← Nat.gcd_rec, Nat.gcd_comm]
      generalize p % q = r at e1 hlt hg2
      go_wp2
      go_quiet (fail)
      go_wp2
      go_roundw
      case rel => exact ⟨q, r, rfl, congrArg (Value.int IntKind.u64) e1, hq, by omega, hg2, _, World.drewN_drewN _ _ _⟩
      case measure => rw [e1]; simp [intOf]; omega

set_option maxRecDepth 100000 in
set_option maxHeartbeats 1000000 in
theorem clone_any (A : Option Addr) (n c : Nat) (l : List Nat) (B : Nat) (w : World) (h : Lim w B A n c l) (hB : B ≤ w.heap.size) (hn : n ≤ 1073741824) :
    Calls Tryz.prog 105 #[.slice A n c] w fun e w' => Below w.heap.size w w' ∧ ∃ v, e = .returned v ∧ OwnL w' w.heap.size 75 v l := by
  obtain ⟨i0, hi0, hz0, hz1, hz2⟩ := info_parts info_u32
  have hlen := h.len
  cases A with
  | none =>
    have hn0 : n = 0 := by
      rcases Nat.eq_zero_or_pos n with h0 | h0
      · exact h0
      · obtain ⟨b, o, e, _⟩ := h.addr h0; cases e
    have hl : l = [] := List.eq_nil_of_length_eq_zero (by omega)
    have heq := fun W => run_eql_slice_nil (P := Tryz.prog) W 22 75 none n c Tryz.underlying22
    have HLE := Lib.hid hl
    clear hl hn0 hlen h
    go_enter Tryz.func105, Tryz.ntmps105
    go_wp2
    go_ret
    exact ⟨Below.refl _ _, _, rfl, by rw [HLE.out]; exact OwnL.nil_ _ _ _⟩
  | some ad =>
    have heq := fun W => run_eql_slice_nil (P := Tryz.prog) W 22 75 (some ad) n c Tryz.underlying22
    have hown : OwnL (w.alloc (.cells #[] 75)) w.heap.size 75 (.slice (some ⟨w.heap.size, 0, none⟩) 0 0) [] :=
      .inr ⟨w.heap.size, 0, 0, [], rfl, Nat.le_refl _, ⟨by have := Bk.alloc_ w 75 #[]; simpa [u32s] using this, Bd.nil⟩, rfl, Nat.le_refl _, by omega, rfl⟩
    have HL := Lib.hid (h.alloc (.cells #[] 75) (B' := B))
    have HO := Lib.hid hown
    clear h hown hlen
    go_enter Tryz.func105, Tryz.ntmps105
    go_wp2_with (at_builtin; refine wpList_append_u32 _ rfl (.tmp 5) (.tmp 6) _ rfl w.heap.size 75 i0 Tryz.underlying22 hi0 hz0 hz1 hz2 (.slice (some ⟨w.heap.size, 0, none⟩) 0 0) [] rfl HO.out B (some ad) n c l rfl (HL.out hB (Nat.le_refl _)) (by simp; omega) (by simp) ?_; intro v5 w5 hown5 hgrow5 hat5; have HOWN5 := Lib.hid hown5; have HGROW5 := Lib.hid hgrow5; clear hown5 hgrow5 hat5)
    go_ret
    refine ⟨?_, _, rfl, HOWN5.out⟩
    refine ((Below.refl _ _).alloc (Nat.le_refl _) _).grown HGROW5.out (by simp) (fun k e => ?_)
    have e1 : w.heap.size = k := by simpa [Value.ownBlock] using e
    omega

end Go.Proofs.YtfnibkodccfocaaGreat
