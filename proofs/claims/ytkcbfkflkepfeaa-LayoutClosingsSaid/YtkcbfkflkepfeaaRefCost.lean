/- Walks of the reference: CostOf, CheckClosing; copies of closings. -/
import Derived.Test.YtkcbfkflkepfeaaRefClo
import Derived.Test.YtkcbfkflkepfeaaLawA
namespace Go.Proofs.Ytkcbfkflkepfeaa
open Go.RowKit

set_option maxHeartbeats 8000000 in
theorem refCost_any (A A2 : Option Addr) (n c n2 c2 : Nat) (s : Sys) (w : World) (h : SysAt w w.heap.size A n c A2 n2 c2 s) (B B2 : Option Addr) (m d m2 d2 : Nat) (lb lo : List Int) (hc : CloAt w w.heap.size B m d B2 m2 d2 lb lo) (hn : 1 ≤ n) (hm : m ≤ 4000) (hm2 : m2 ≤ 4000) :
    Calls Try.prog 19 #[.agg #[.slice A n c, .slice A2 n2 c2, .int .i64 s.width, .int .i64 s.gap, .int .i64 s.lift], .agg #[.slice B m d, .slice B2 m2 d2]] w fun e w' => Below w.heap.size w w' ∧ e = .returned (.agg #[.int .i64 ((m2 + odds s.reg lb : Nat) : Int), .int .i64 (m : Int)]) := by
  have hcapA := h.a.nums.cap; have hmaxA := h.a.nums.max; have hcapB := h.b.nums.cap; have hmaxB := h.b.nums.max; have HLA := Lib.hid h.a.nums.len; have HLB := Lib.hid h.b.nums.len; have H : Hid (∀ w', Below w.heap.size w w' → SysAt w' w.heap.size A n c A2 n2 c2 s) := fun w' hb => h.below hb (Nat.le_refl _) (Nat.le_refl _); have HS : Hid (∀ w', Below w.heap.size w w' → SysAt w' w'.heap.size A n c A2 n2 c2 s) := fun w' hb => h.below hb (Nat.le_refl _) hb.size; clear h
  have HLC := Lib.hid hc.a.nums.len
  have hcapC := hc.a.nums.cap
  have hmaxC := hc.a.nums.max
  have hcapD := hc.b.nums.cap
  have hmaxD := hc.b.nums.max
  have HC : Hid (∀ w', Below w.heap.size w w' → CloAt w' w.heap.size B m d B2 m2 d2 lb lo) := fun w' hb => hc.below hb (Nat.le_refl _) (Nat.le_refl _)
  obtain ⟨n1, hn1⟩ : ∃ n1 : Nat, n1 = n - 1 := ⟨_, rfl⟩
  have hnw : IntKind.i64.wrap ((n : Int) - 1) = (n1 : Int) := by rw [IntWalk.i64_in _ (by omega)]; omega
  have hnn : n1 < n := by omega
  have HN1 := Lib.hid hn1
  clear hc hn1
  go_enter Try.func19, Try.ntmps19
  go_wp2
  go_loopw [6] (fun i wr => ∃ k : Nat, k ≤ m ∧ i = .int .i64 k ∧ Bk wr w.heap.size 24 #[.slice A n c, .slice A2 n2 c2, .int .i64 s.width, .int .i64 s.gap, .int .i64 s.lift] ∧ Bk wr (w.heap.size + 1) 26 #[.slice B m d, .slice B2 m2 d2] ∧ Bk wr (w.heap.size + 1 + 1) 36 #[.int .i64 0, .int .i64 0] ∧ Bk wr (w.heap.size + 1 + 1 + 1) 36 #[.int .i64 ((m2 + odds s.reg (lb.take k) : Nat) : Int), .int .i64 (m : Int)] ∧ Below w.heap.size w wr) (fun i _ => m - (intOf i).toNat)
  case atStart => exact ⟨0, Nat.zero_le _, rfl, by exact (by repeat (first | with_reducible assumption | with_reducible exact Bk.at_ (by first | (simp; done) | omega) | with_reducible refine Bk.alloc ?_ _ | with_reducible refine Bk.drew ?_ | with_reducible refine Bk.drewN ?_ _ | with_reducible refine Bk.step (by with_reducible assumption) ?_ (by first | omega | (simp <;> omega)))), by exact (by repeat (first | with_reducible assumption | with_reducible exact Bk.at_ (by first | (simp; done) | omega) | with_reducible refine Bk.alloc ?_ _ | with_reducible refine Bk.drew ?_ | with_reducible refine Bk.drewN ?_ _ | with_reducible refine Bk.step (by with_reducible assumption) ?_ (by first | omega | (simp <;> omega)))), by exact (by repeat (first | with_reducible assumption | with_reducible exact Bk.at_ (by first | (simp; done) | omega) | with_reducible refine Bk.alloc ?_ _ | with_reducible refine Bk.drew ?_ | with_reducible refine Bk.drewN ?_ _ | with_reducible refine Bk.step (by with_reducible assumption) ?_ (by first | omega | (simp <;> omega)))), by rw [show odds s.reg (lb.take 0) = 0 from rfl, Nat.add_zero m2]; exact (by repeat (first | with_reducible assumption | with_reducible exact Bk.at_ (by first | (simp; done) | omega) | with_reducible refine Bk.alloc ?_ _ | with_reducible refine Bk.drew ?_ | with_reducible refine Bk.drewN ?_ _ | with_reducible refine Bk.step (by with_reducible assumption) ?_ (by first | omega | (simp <;> omega)))), (by repeat (first | with_reducible exact Below.refl _ _ | with_reducible assumption | with_reducible refine Below.drew ?_ | with_reducible refine Below.drewN ?_ _ | with_reducible refine Below.alloc2 ?_ _ | with_reducible refine Below.alloc ?_ (by first | omega | (simp <;> omega)) _ | with_reducible refine Below.setCell ?_ (by first | omega | (simp <;> omega)) _ | with_reducible refine Below.step2 (by with_reducible assumption) ?_ | with_reducible refine Below.step (by with_reducible assumption) ?_ (by first | omega | (simp <;> omega))))⟩
  case round =>
    obtain ⟨k, hk, rfl, k1, k4, k2, k3, hb⟩ := hrel
    have hle := odds_le s.reg (lb.take k)
    rw [List.length_take, HLC.out] at hle
    obtain ⟨⟨a0, a1, a2, a3, a4⟩, -⟩ := k1.five
    obtain ⟨⟨b0, b1⟩, g0, g1⟩ := k2.two
    obtain ⟨⟨c0, c1⟩, f0, f1⟩ := k3.two
    obtain ⟨e0, e1⟩ := k4.pair
    have HB := Lib.hid hb
    have o1 := k1.lt
    have o2 := k2.lt
    have o3 := k3.lt
    have K1 := Lib.hid k1
    have K2 := Lib.hid k2
    have K3 := Lib.hid k3
    have K4 := Lib.hid k4
    have ow := hb.size
    by_cases hlt : k < m
    · obtain ⟨b, o, x, rfl, hbb, hx, d0⟩ := (HC.out _ hb).a.nums.at_ hlt
      obtain ⟨rb, ro, y, rfl, hrb, hy, d1⟩ := (H.out _ hb).a.nums.at_ hnn
      have HRY : Hid (s.reg = y) := Lib.hid (by unfold Sys.reg; rw [HLA.out, ← HN1.out]; exact getD_of hy)
      have HO := Lib.hid (odds_take (r := s.reg) hx)
      have ob : b < wr.heap.size := by omega
      have orb : rb < wr.heap.size := by omega
      clear hx hy hb hbb hrb k1 k2 k3 k4
      generalize odds s.reg (lb.take k) = q at *
      by_cases hxr : x = y
      · have hxb : (x == y) = true := by simpa using hxr
        have hxn : (x != y) = false := by simpa using hxr
        have HXR := Lib.hid hxr
        clear hxr
        go_wp2
        go_quiet (fail)
        go_wp2
        go_roundw
        case rel =>
          have hb := HB.out
          refine ⟨k + 1, by omega, by go_num, K1.out, K4.out, K2.out, ?_, (by repeat (first | with_reducible exact Below.refl _ _ | with_reducible assumption | with_reducible refine Below.drew ?_ | with_reducible refine Below.drewN ?_ _ | with_reducible refine Below.alloc2 ?_ _ | with_reducible refine Below.alloc ?_ (by first | omega | (simp <;> omega)) _ | with_reducible refine Below.setCell ?_ (by first | omega | (simp <;> omega)) _ | with_reducible refine Below.step2 (by with_reducible assumption) ?_ | with_reducible refine Below.step (by with_reducible assumption) ?_ (by first | omega | (simp <;> omega))))⟩
          rw [HO.out, if_pos (by rw [HRY.out]; exact HXR.out)]
          exact K3.out
        case measure => simp [intOf]; omega
      · have hxb : (x == y) = false := by simpa using hxr
        have hxn : (x != y) = true := by simpa using hxr
        have HXR := Lib.hid hxr
        clear hxr
        have hw1 : IntKind.i64.wrap (((m2 + q : Nat) : Int) + 1) = ((m2 + q : Nat) : Int) + 1 := IntWalk.i64_in _ (by omega)
        go_wp2
        go_quiet (fail)
        go_wp2
        go_roundw
        case rel =>
          have hb := HB.out
          refine ⟨k + 1, by omega, by go_num, (K1.out).other (by first | (simp; done) | (simp; omega)) _, (K4.out).other (by first | (simp; done) | (simp; omega)) _, (K2.out).other (by first | (simp; done) | (simp; omega)) _, ?_, (by repeat (first | with_reducible exact Below.refl _ _ | with_reducible assumption | with_reducible refine Below.drew ?_ | with_reducible refine Below.drewN ?_ _ | with_reducible refine Below.alloc2 ?_ _ | with_reducible refine Below.alloc ?_ (by first | omega | (simp <;> omega)) _ | with_reducible refine Below.setCell ?_ (by first | omega | (simp <;> omega)) _ | with_reducible refine Below.step2 (by with_reducible assumption) ?_ | with_reducible refine Below.step (by with_reducible assumption) ?_ (by first | omega | (simp <;> omega))))⟩
          rw [HO.out, if_neg (by rw [HRY.out]; exact HXR.out)]
          have := (K3.out.drewN nq).set_ 0 (.int .i64 (((m2 + q : Nat) : Int) + 1))
          rw [show ((m2 + (q + 1) : Nat) : Int) = ((m2 + q : Nat) : Int) + 1 by omega]
          simpa using this
        case measure => simp [intOf]; omega
    · have e : m = k := by omega
      subst e
      rw [List.take_of_length_le (by rw [HLC.out]; exact Nat.le_refl _)] at c0
      clear hb k1 k2 k3 k4 hle
      go_wp2
      have hb := HB.out
      refine bodyPost_ret (v := .agg #[.int .i64 ((m2 + odds s.reg lb : Nat) : Int), .int .i64 (m : Int)]) (by simp [results, Try.results19, go_sem, b0, b1]) rfl ⟨(by repeat (first | with_reducible exact Below.refl _ _ | with_reducible assumption | with_reducible refine Below.drew ?_ | with_reducible refine Below.drewN ?_ _ | with_reducible refine Below.alloc2 ?_ _ | with_reducible refine Below.alloc ?_ (by first | omega | (simp <;> omega)) _ | with_reducible refine Below.setCell ?_ (by first | omega | (simp <;> omega)) _ | with_reducible refine Below.step2 (by with_reducible assumption) ?_ | with_reducible refine Below.step (by with_reducible assumption) ?_ (by first | omega | (simp <;> omega)))), rfl⟩

set_option maxHeartbeats 4000000 in
theorem refCheckClo_any (A A2 : Option Addr) (n c n2 c2 : Nat) (s : Sys) (w : World) (h : SysAt w w.heap.size A n c A2 n2 c2 s) (B B2 : Option Addr) (m d m2 d2 : Nat) (lb lo : List Int) (hc : CloAt w w.heap.size B m d B2 m2 d2 lb lo) (hok : CloOk s lb lo) (x : Int) :
    Calls Try.prog 20 #[.agg #[.slice A n c, .slice A2 n2 c2, .int .i64 s.width, .int .i64 s.gap, .int .i64 s.lift], .int .i64 x, .agg #[.slice B m d, .slice B2 m2 d2]] w fun e w' => Below w.heap.size w w' ∧ e = .returned (.int .i64 (if cloLen lb lo = x then 0 else 25)) := by
  have hcapA := h.a.nums.cap; have hmaxA := h.a.nums.max; have hcapB := h.b.nums.cap; have hmaxB := h.b.nums.max; have HLA := Lib.hid h.a.nums.len; have HLB := Lib.hid h.b.nums.len; have H : Hid (∀ w', Below w.heap.size w w' → SysAt w' w.heap.size A n c A2 n2 c2 s) := fun w' hb => h.below hb (Nat.le_refl _) (Nat.le_refl _); have HS : Hid (∀ w', Below w.heap.size w w' → SysAt w' w'.heap.size A n c A2 n2 c2 s) := fun w' hb => h.below hb (Nat.le_refl _) hb.size; clear h
  have HCL : Hid (∀ w', Below w.heap.size w w' → CloAt w' w'.heap.size B m d B2 m2 d2 lb lo) := fun w' hb => hc.below hb (Nat.le_refl _) hb.size
  have hm : lb.length = m := hc.a.nums.len
  have hmm2 : lo.length = m2 := hc.b.nums.len
  have h1 := hok.a
  have h2 := hok.b
  have HE : Hid (s.cloErr lb lo = 0) := Lib.hid (clo0 (by omega) (by rw [hok.ca, hok.cb]; rfl) (by rw [hok.fa, hok.fb]; rfl))
  have HLO := Lib.hid (fun (W : World) (hW : CloAt W W.heap.size B m d B2 m2 d2 lb lo) => refLen_any B B2 m d m2 d2 lb lo W hW hok.smallA hok.smallB (by omega) (by omega))
  clear hc hok
  generalize cloLen lb lo = L at *
  by_cases hL : L = x
  · have hb : (L == x) = true := by simpa using hL
    have hn : (L != x) = false := by simpa using hL
    rw [if_pos hL]
    clear hL
    go_enter Try.func20, Try.ntmps20
    go_wp2_with (first | (go_at_call 17; refine (refClo_any _ _ _ _ _ _ _ _ (HS.out _ (by exact (by repeat (first | with_reducible exact Below.refl _ _ | with_reducible assumption | with_reducible refine Below.drew ?_ | with_reducible refine Below.drewN ?_ _ | with_reducible refine Below.alloc2 ?_ _ | with_reducible refine Below.alloc ?_ (by first | omega | (simp <;> omega)) _ | with_reducible refine Below.setCell ?_ (by first | omega | (simp <;> omega)) _ | with_reducible refine Below.step2 (by with_reducible assumption) ?_ | with_reducible refine Below.step (by with_reducible assumption) ?_ (by first | omega | (simp <;> omega)))))) _ _ _ _ _ _ _ _ (HCL.out _ (by exact (by repeat (first | with_reducible exact Below.refl _ _ | with_reducible assumption | with_reducible refine Below.drew ?_ | with_reducible refine Below.drewN ?_ _ | with_reducible refine Below.alloc2 ?_ _ | with_reducible refine Below.alloc ?_ (by first | omega | (simp <;> omega)) _ | with_reducible refine Below.setCell ?_ (by first | omega | (simp <;> omega)) _ | with_reducible refine Below.step2 (by with_reducible assumption) ?_ | with_reducible refine Below.step (by with_reducible assumption) ?_ (by first | omega | (simp <;> omega))))))).mono ?_; rintro e w1 ⟨hb, rfl⟩; rw [HE.out]; have HB1 : Hid (Below w.heap.size w w1) := Lib.hid (by exact (by repeat (first | with_reducible exact Below.refl _ _ | with_reducible assumption | with_reducible refine Below.drew ?_ | with_reducible refine Below.drewN ?_ _ | with_reducible refine Below.alloc2 ?_ _ | with_reducible refine Below.alloc ?_ (by first | omega | (simp <;> omega)) _ | with_reducible refine Below.setCell ?_ (by first | omega | (simp <;> omega)) _ | with_reducible refine Below.step2 (by with_reducible assumption) ?_ | with_reducible refine Below.step (by with_reducible assumption) ?_ (by first | omega | (simp <;> omega))))); have HC1 : Hid (Bk w1 (w.heap.size + 1) 26 #[.slice B m d, .slice B2 m2 d2]) := Lib.hid (by exact (by repeat (first | with_reducible assumption | with_reducible exact Bk.at_ (by first | (simp; done) | omega) | with_reducible refine Bk.alloc ?_ _ | with_reducible refine Bk.drew ?_ | with_reducible refine Bk.drewN ?_ _ | with_reducible refine Bk.step (by with_reducible assumption) ?_ (by first | omega | (simp <;> omega))))); obtain ⟨c10, c11⟩ := HC1.out.pair; clear hb) | (go_at_call 18; refine (HLO.out _ (HCL.out _ HB1.out)).mono ?_; rintro e w2 ⟨hb, rfl⟩; have HB2 : Hid (Below w.heap.size w w2) := Lib.hid (by have hb0 := HB1.out; exact (by repeat (first | with_reducible exact Below.refl _ _ | with_reducible assumption | with_reducible refine Below.drew ?_ | with_reducible refine Below.drewN ?_ _ | with_reducible refine Below.alloc2 ?_ _ | with_reducible refine Below.alloc ?_ (by first | omega | (simp <;> omega)) _ | with_reducible refine Below.setCell ?_ (by first | omega | (simp <;> omega)) _ | with_reducible refine Below.step2 (by with_reducible assumption) ?_ | with_reducible refine Below.step (by with_reducible assumption) ?_ (by first | omega | (simp <;> omega))))); clear hb))
    go_ret
    exact ⟨HB2.out, rfl⟩
  · have hb : (L == x) = false := by simpa using hL
    have hn : (L != x) = true := by simpa using hL
    rw [if_neg hL]
    clear hL
    go_enter Try.func20, Try.ntmps20
    go_wp2_with (first | (go_at_call 17; refine (refClo_any _ _ _ _ _ _ _ _ (HS.out _ (by exact (by repeat (first | with_reducible exact Below.refl _ _ | with_reducible assumption | with_reducible refine Below.drew ?_ | with_reducible refine Below.drewN ?_ _ | with_reducible refine Below.alloc2 ?_ _ | with_reducible refine Below.alloc ?_ (by first | omega | (simp <;> omega)) _ | with_reducible refine Below.setCell ?_ (by first | omega | (simp <;> omega)) _ | with_reducible refine Below.step2 (by with_reducible assumption) ?_ | with_reducible refine Below.step (by with_reducible assumption) ?_ (by first | omega | (simp <;> omega)))))) _ _ _ _ _ _ _ _ (HCL.out _ (by exact (by repeat (first | with_reducible exact Below.refl _ _ | with_reducible assumption | with_reducible refine Below.drew ?_ | with_reducible refine Below.drewN ?_ _ | with_reducible refine Below.alloc2 ?_ _ | with_reducible refine Below.alloc ?_ (by first | omega | (simp <;> omega)) _ | with_reducible refine Below.setCell ?_ (by first | omega | (simp <;> omega)) _ | with_reducible refine Below.step2 (by with_reducible assumption) ?_ | with_reducible refine Below.step (by with_reducible assumption) ?_ (by first | omega | (simp <;> omega))))))).mono ?_; rintro e w1 ⟨hb, rfl⟩; rw [HE.out]; have HB1 : Hid (Below w.heap.size w w1) := Lib.hid (by exact (by repeat (first | with_reducible exact Below.refl _ _ | with_reducible assumption | with_reducible refine Below.drew ?_ | with_reducible refine Below.drewN ?_ _ | with_reducible refine Below.alloc2 ?_ _ | with_reducible refine Below.alloc ?_ (by first | omega | (simp <;> omega)) _ | with_reducible refine Below.setCell ?_ (by first | omega | (simp <;> omega)) _ | with_reducible refine Below.step2 (by with_reducible assumption) ?_ | with_reducible refine Below.step (by with_reducible assumption) ?_ (by first | omega | (simp <;> omega))))); have HC1 : Hid (Bk w1 (w.heap.size + 1) 26 #[.slice B m d, .slice B2 m2 d2]) := Lib.hid (by exact (by repeat (first | with_reducible assumption | with_reducible exact Bk.at_ (by first | (simp; done) | omega) | with_reducible refine Bk.alloc ?_ _ | with_reducible refine Bk.drew ?_ | with_reducible refine Bk.drewN ?_ _ | with_reducible refine Bk.step (by with_reducible assumption) ?_ (by first | omega | (simp <;> omega))))); obtain ⟨c10, c11⟩ := HC1.out.pair; clear hb) | (go_at_call 18; refine (HLO.out _ (HCL.out _ HB1.out)).mono ?_; rintro e w2 ⟨hb, rfl⟩; have HB2 : Hid (Below w.heap.size w w2) := Lib.hid (by have hb0 := HB1.out; exact (by repeat (first | with_reducible exact Below.refl _ _ | with_reducible assumption | with_reducible refine Below.drew ?_ | with_reducible refine Below.drewN ?_ _ | with_reducible refine Below.alloc2 ?_ _ | with_reducible refine Below.alloc ?_ (by first | omega | (simp <;> omega)) _ | with_reducible refine Below.setCell ?_ (by first | omega | (simp <;> omega)) _ | with_reducible refine Below.step2 (by with_reducible assumption) ?_ | with_reducible refine Below.step (by with_reducible assumption) ?_ (by first | omega | (simp <;> omega))))); clear hb))
    go_ret
    exact ⟨HB2.out, rfl⟩

end Go.Proofs.Ytkcbfkflkepfeaa
