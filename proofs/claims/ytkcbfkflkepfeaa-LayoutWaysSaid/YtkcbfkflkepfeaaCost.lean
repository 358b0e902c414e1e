/- Walks: costOf of the program. -/
import Derived.Test.YtkcbfkflkepfeaaUnit
namespace Go.Proofs.Ytkcbfkflkepfeaa
open Go.RowKit

/-- How many of a list are not the regular bay. -/
def odds (r : Int) (l : List Int) : Nat := l.countP fun x => decide (x ≠ r)
theorem odds_take {r : Int} {l : List Int} {k : Nat} {x : Int} (h : l[k]? = some x) : odds r (l.take (k + 1)) = odds r (l.take k) + (if x = r then 0 else 1) := by
  obtain ⟨hk, rfl⟩ := List.getElem?_eq_some_iff.1 h
  unfold odds
  rw [List.take_succ_eq_append_getElem hk, List.countP_append]
  simp only [List.countP_cons, List.countP_nil]
  split <;> simp_all
theorem odds_le (r : Int) (l : List Int) : odds r l ≤ l.length := List.countP_le_length

structure CloAt (w : World) (B0 : Nat) (B : Option Addr) (m d : Nat) (B2 : Option Addr) (m2 d2 : Nat) (lb lo : List Int) : Prop where
  a : Ints w B0 B m d lb
  b : Ints w B0 B2 m2 d2 lo
theorem CloAt.below {w w' : World} {B0 B0' m d m2 d2 : Nat} {B B2 : Option Addr} {lb lo : List Int} (h : CloAt w B0 B m d B2 m2 d2 lb lo) {D : Nat} (hb : Below D w w') (hD : B0 ≤ D) (hB : B0 ≤ B0') : CloAt w' B0' B m d B2 m2 d2 lb lo := ⟨h.a.below hb hD hB, h.b.below hb hD hB⟩

set_option maxHeartbeats 4000000 in
theorem costOf_any (A A2 : Option Addr) (n c n2 c2 : Nat) (s : Sys) (w : World) (h : SysAt w w.heap.size A n c A2 n2 c2 s) (B B2 : Option Addr) (m d m2 d2 : Nat) (lb lo : List Int) (hc : CloAt w w.heap.size B m d B2 m2 d2 lb lo) (hn : 1 ≤ n) (hm : m ≤ 4000) (hm2 : m2 ≤ 4000) :
    Calls Try.prog 39 #[.agg #[.slice A n c, .slice A2 n2 c2, .int .i64 s.width, .int .i64 s.gap, .int .i64 s.lift], .agg #[.slice B m d, .slice B2 m2 d2]] w fun e w' => Below w.heap.size w w' ∧ e = .returned (.agg #[.int .i64 ((m2 + odds s.reg lb : Nat) : Int), .int .i64 (m : Int)]) := by
  have hcapA := h.a.nums.cap; have hmaxA := h.a.nums.max; have hcapB := h.b.nums.cap; have hmaxB := h.b.nums.max; have HLA := Lib.hid h.a.nums.len; have HLB := Lib.hid h.b.nums.len; have H : Hid (∀ w', Below w.heap.size w w' → SysAt w' w.heap.size A n c A2 n2 c2 s) := fun w' hb => h.below hb (Nat.le_refl _) (Nat.le_refl _); have HS : Hid (∀ w', Below w.heap.size w w' → SysAt w' w'.heap.size A n c A2 n2 c2 s) := fun w' hb => h.below hb (Nat.le_refl _) hb.size; clear h
  have HLC := Lib.hid hc.a.nums.len
  have hcapC := hc.a.nums.cap
  have hmaxC := hc.a.nums.max
  have hcapD := hc.b.nums.cap
  have hmaxD := hc.b.nums.max
  have HC : Hid (∀ w', Below w.heap.size w w' → CloAt w' w.heap.size B m d B2 m2 d2 lb lo) := fun w' hb => hc.below hb (Nat.le_refl _) (Nat.le_refl _)
  clear hc
  go_enter Try.func39, Try.ntmps39
  go_wp2
  go_loopw [18] (fun i wr => ∃ k : Nat, k ≤ m ∧ i = .int .i64 k ∧ Bk wr w.heap.size 24 #[.slice A n c, .slice A2 n2 c2, .int .i64 s.width, .int .i64 s.gap, .int .i64 s.lift] ∧ Bk wr (w.heap.size + 1 + 1) 36 #[.int .i64 0, .int .i64 0] ∧ Bk wr (w.heap.size + 1 + 1 + 1) 36 #[.int .i64 ((m2 + odds s.reg (lb.take k) : Nat) : Int), .int .i64 (m : Int)] ∧ Below w.heap.size w wr) (fun i _ => m - (intOf i).toNat)
  case atStart => exact ⟨0, Nat.zero_le _, rfl, by exact (by repeat (first | with_reducible assumption | with_reducible exact Bk.at_ (by first | (simp; done) | omega) | with_reducible refine Bk.alloc ?_ _ | with_reducible refine Bk.drew ?_ | with_reducible refine Bk.drewN ?_ _ | with_reducible refine Bk.step (by with_reducible assumption) ?_ (by first | omega | (simp <;> omega)))), by exact (by repeat (first | with_reducible assumption | with_reducible exact Bk.at_ (by first | (simp; done) | omega) | with_reducible refine Bk.alloc ?_ _ | with_reducible refine Bk.drew ?_ | with_reducible refine Bk.drewN ?_ _ | with_reducible refine Bk.step (by with_reducible assumption) ?_ (by first | omega | (simp <;> omega)))), by rw [show odds s.reg (lb.take 0) = 0 from rfl, Nat.add_zero m2]; exact (by repeat (first | with_reducible assumption | with_reducible exact Bk.at_ (by first | (simp; done) | omega) | with_reducible refine Bk.alloc ?_ _ | with_reducible refine Bk.drew ?_ | with_reducible refine Bk.drewN ?_ _ | with_reducible refine Bk.step (by with_reducible assumption) ?_ (by first | omega | (simp <;> omega)))), (by repeat (first | with_reducible exact Below.refl _ _ | with_reducible assumption | with_reducible refine Below.drew ?_ | with_reducible refine Below.drewN ?_ _ | with_reducible refine Below.alloc2 ?_ _ | with_reducible refine Below.alloc ?_ (by first | omega | (simp <;> omega)) _ | with_reducible refine Below.setCell ?_ (by first | omega | (simp <;> omega)) _ | with_reducible refine Below.step2 (by with_reducible assumption) ?_ | with_reducible refine Below.step (by with_reducible assumption) ?_ (by first | omega | (simp <;> omega))))⟩
  case round =>
    obtain ⟨k, hk, rfl, k1, k2, k3, hb⟩ := hrel
    have hle := odds_le s.reg (lb.take k)
    rw [List.length_take, HLC.out] at hle
    obtain ⟨⟨a0, a1, a2, a3, a4⟩, -⟩ := k1.five
    obtain ⟨⟨b0, b1⟩, g0, g1⟩ := k2.two
    obtain ⟨⟨c0, c1⟩, f0, f1⟩ := k3.two
    have HB := Lib.hid hb
    have o1 := k1.lt
    have o2 := k2.lt
    have o3 := k3.lt
    have K1 := Lib.hid k1
    have K2 := Lib.hid k2
    have K3 := Lib.hid k3
    have ow := hb.size
    by_cases hlt : k < m
    · obtain ⟨b, o, x, rfl, hbb, hx, d0⟩ := (HC.out _ hb).a.nums.at_ hlt
      have HO := Lib.hid (odds_take (r := s.reg) hx)
      have ob : b < wr.heap.size := by omega
      clear hx hb hbb k1 k2 k3
      generalize odds s.reg (lb.take k) = q at *
      by_cases hxr : x = s.reg
      · have HR := Lib.hid hxr
        have hxb : (x == s.reg) = true := by simpa using hxr
        clear hxr
        go_wp2_with (go_at_call 53; refine (regular_any _ _ _ _ _ _ _ _ (HS.out _ HB.out) hn).mono ?_; rintro e wd ⟨hbd, rfl⟩; have HBD := Lib.hid hbd; clear hbd)
        go_roundw
        case rel =>
          have hb := HB.out
          have hbd := HBD.out
          refine ⟨k + 1, by omega, by go_num, K1.out.below hbd o1, K2.out.below hbd o2, ?_, (by repeat (first | with_reducible exact Below.refl _ _ | with_reducible assumption | with_reducible refine Below.drew ?_ | with_reducible refine Below.drewN ?_ _ | with_reducible refine Below.alloc2 ?_ _ | with_reducible refine Below.alloc ?_ (by first | omega | (simp <;> omega)) _ | with_reducible refine Below.setCell ?_ (by first | omega | (simp <;> omega)) _ | with_reducible refine Below.step2 (by with_reducible assumption) ?_ | with_reducible refine Below.step (by with_reducible assumption) ?_ (by first | omega | (simp <;> omega))))⟩
          rw [HO.out, if_pos HR.out]
          exact K3.out.below hbd o3
        case measure => simp [intOf]; omega
      · have HR := Lib.hid hxr
        have hxb : (x == s.reg) = false := by simpa using hxr
        clear hxr
        have hw1 : IntKind.i64.wrap (((m2 + q : Nat) : Int) + 1) = ((m2 + q : Nat) : Int) + 1 := IntWalk.i64_in _ (by omega)
        go_wp2_with (go_at_call 53; refine (regular_any _ _ _ _ _ _ _ _ (HS.out _ HB.out) hn).mono ?_; rintro e wd ⟨hbd, rfl⟩; have HBD := Lib.hid hbd; have K3D := Lib.hid (K3.out.below hbd o3); obtain ⟨⟨c0, c1⟩, f0, f1⟩ := K3D.out.two; have od := hbd.size; clear hbd)
        go_roundw
        case rel =>
          have hb := HB.out
          have hbd := HBD.out
          refine ⟨k + 1, by omega, by go_num, (K1.out.below hbd o1).other (by simp; omega) _, (K2.out.below hbd o2).other (by simp) _, ?_, (by repeat (first | with_reducible exact Below.refl _ _ | with_reducible assumption | with_reducible refine Below.drew ?_ | with_reducible refine Below.drewN ?_ _ | with_reducible refine Below.alloc2 ?_ _ | with_reducible refine Below.alloc ?_ (by first | omega | (simp <;> omega)) _ | with_reducible refine Below.setCell ?_ (by first | omega | (simp <;> omega)) _ | with_reducible refine Below.step2 (by with_reducible assumption) ?_ | with_reducible refine Below.step (by with_reducible assumption) ?_ (by first | omega | (simp <;> omega))))⟩
          rw [HO.out, if_neg HR.out]
          have := K3D.out.set_ 0 (.int .i64 (((m2 + q : Nat) : Int) + 1))
          rw [show ((m2 + (q + 1) : Nat) : Int) = ((m2 + q : Nat) : Int) + 1 by omega]
          simpa using this
        case measure => simp [intOf]; omega
    · have e : m = k := by omega
      subst e
      rw [List.take_of_length_le (by rw [HLC.out]; exact Nat.le_refl _)] at c0
      clear hb k1 k2 k3 hle
      go_wp2
      have hb := HB.out
      refine bodyPost_ret (v := .agg #[.int .i64 ((m2 + odds s.reg lb : Nat) : Int), .int .i64 (m : Int)]) (by simp [results, Try.results39, go_sem, b0, b1]) rfl ⟨(by repeat (first | with_reducible exact Below.refl _ _ | with_reducible assumption | with_reducible refine Below.drew ?_ | with_reducible refine Below.drewN ?_ _ | with_reducible refine Below.alloc2 ?_ _ | with_reducible refine Below.alloc ?_ (by first | omega | (simp <;> omega)) _ | with_reducible refine Below.setCell ?_ (by first | omega | (simp <;> omega)) _ | with_reducible refine Below.step2 (by with_reducible assumption) ?_ | with_reducible refine Below.step (by with_reducible assumption) ?_ (by first | omega | (simp <;> omega)))), rfl⟩

end Go.Proofs.Ytkcbfkflkepfeaa
