/- Walks: closingError, systemAndClosingError, CostOf where nothing is wrong. -/
import Derived.Test.YtkcbfkflkepfeaaClosing
namespace Go.Proofs.Ytkcbfkflkepfeaa
open Go.RowKit

/-- A closing of a valid system in which nothing is wrong. -/
structure CloOk (s : Sys) (lb lo : List Int) : Prop where
  err : s.err = 0
  a : lb.length ≤ 4000
  b : lo.length ≤ 4000
  ca : (lb.all fun z => s.bays.contains z) = true
  cb : (lo.all fun z => s.boards.contains z) = true
  fa : fall lb = true
  fb : fall lo = true

theorem layDescends_any (A : Option Addr) (n c : Nat) (l : List Int) (w : World) (h : Ints w w.heap.size A n c l) :
    Calls Try.prog 66 #[.slice A n c] w fun e w' => Below w.heap.size w w' ∧ e = .returned (.bool (fall l)) := by
  have HD := Lib.hid (descends_any A n c l w h)
  clear h
  go_enter Try.func66, Try.ntmps66
  go_wp2_with (go_at_call 76; refine HD.out.mono ?_; rintro e w1 ⟨hb1, rfl⟩; have HB1 := Lib.hid hb1; clear hb1)
  go_ret
  exact ⟨HB1.out, rfl⟩

set_option maxHeartbeats 4000000 in
theorem closingError_ok (A A2 : Option Addr) (n c n2 c2 : Nat) (s : Sys) (w : World) (h : SysAt w w.heap.size A n c A2 n2 c2 s) (B B2 : Option Addr) (m d m2 d2 : Nat) (lb lo : List Int) (hc : CloAt w w.heap.size B m d B2 m2 d2 lb lo) (hok : CloOk s lb lo) :
    Calls Try.prog 52 #[.agg #[.slice A n c, .slice A2 n2 c2, .int .i64 s.width, .int .i64 s.gap, .int .i64 s.lift], .agg #[.slice B m d, .slice B2 m2 d2]] w fun e w' => Below w.heap.size w w' ∧ e = .returned (.int .i64 0) := by
  have hcapA := h.a.nums.cap; have hmaxA := h.a.nums.max; have hcapB := h.b.nums.cap; have hmaxB := h.b.nums.max; have HLA := Lib.hid h.a.nums.len; have HLB := Lib.hid h.b.nums.len; have H : Hid (∀ w', Below w.heap.size w w' → SysAt w' w.heap.size A n c A2 n2 c2 s) := fun w' hb => h.below hb (Nat.le_refl _) (Nat.le_refl _); have HS : Hid (∀ w', Below w.heap.size w w' → SysAt w' w'.heap.size A n c A2 n2 c2 s) := fun w' hb => h.below hb (Nat.le_refl _) hb.size; clear h
  have hcapC := hc.a.nums.cap
  have hmaxC := hc.a.nums.max
  have hcapD := hc.b.nums.cap
  have hmaxD := hc.b.nums.max
  have hm1 : m ≤ 4000 := by have := hok.a; rw [hc.a.nums.len] at this; exact this
  have hm2 : m2 ≤ 4000 := by have := hok.b; rw [hc.b.nums.len] at this; exact this
  have HCL : Hid (∀ w', Below w.heap.size w w' → CloAt w' w'.heap.size B m d B2 m2 d2 lb lo) := fun w' hb => hc.below hb (Nat.le_refl _) hb.size
  have HOK := Lib.hid hok
  clear hc hok
  go_enter Try.func52, Try.ntmps52
  go_wp2_with (first
    | (go_at_call_of 65 (Value.slice A n c); refine (contains_any _ _ _ _ _ _ _ _ _ (HS.out _ (by exact (by repeat (first | with_reducible exact Below.refl _ _ | with_reducible assumption | with_reducible refine Below.drew ?_ | with_reducible refine Below.drewN ?_ _ | with_reducible refine Below.alloc2 ?_ _ | with_reducible refine Below.alloc ?_ (by first | omega | (simp <;> omega)) _ | with_reducible refine Below.setCell ?_ (by first | omega | (simp <;> omega)) _ | with_reducible refine Below.step2 (by with_reducible assumption) ?_ | with_reducible refine Below.step (by with_reducible assumption) ?_ (by first | omega | (simp <;> omega)))))).a (HCL.out _ (by exact (by repeat (first | with_reducible exact Below.refl _ _ | with_reducible assumption | with_reducible refine Below.drew ?_ | with_reducible refine Below.drewN ?_ _ | with_reducible refine Below.alloc2 ?_ _ | with_reducible refine Below.alloc ?_ (by first | omega | (simp <;> omega)) _ | with_reducible refine Below.setCell ?_ (by first | omega | (simp <;> omega)) _ | with_reducible refine Below.step2 (by with_reducible assumption) ?_ | with_reducible refine Below.step (by with_reducible assumption) ?_ (by first | omega | (simp <;> omega)))))).a).mono ?_; rintro e w1 ⟨hb, rfl⟩; rw [HOK.out.ca]; have HB1 : Hid (Below w.heap.size w w1) := Lib.hid (by exact (by repeat (first | with_reducible exact Below.refl _ _ | with_reducible assumption | with_reducible refine Below.drew ?_ | with_reducible refine Below.drewN ?_ _ | with_reducible refine Below.alloc2 ?_ _ | with_reducible refine Below.alloc ?_ (by first | omega | (simp <;> omega)) _ | with_reducible refine Below.setCell ?_ (by first | omega | (simp <;> omega)) _ | with_reducible refine Below.step2 (by with_reducible assumption) ?_ | with_reducible refine Below.step (by with_reducible assumption) ?_ (by first | omega | (simp <;> omega))))); have HK1 : Hid (Bk w1 w.heap.size 24 #[.slice A n c, .slice A2 n2 c2, .int .i64 s.width, .int .i64 s.gap, .int .i64 s.lift]) := Lib.hid (by exact (by repeat (first | with_reducible assumption | with_reducible exact Bk.at_ (by first | (simp; done) | omega) | with_reducible refine Bk.alloc ?_ _ | with_reducible refine Bk.drew ?_ | with_reducible refine Bk.drewN ?_ _ | with_reducible refine Bk.step (by with_reducible assumption) ?_ (by first | omega | (simp <;> omega))))); have HC1 : Hid (Bk w1 (w.heap.size + 1) 26 #[.slice B m d, .slice B2 m2 d2]) := Lib.hid (by exact (by repeat (first | with_reducible assumption | with_reducible exact Bk.at_ (by first | (simp; done) | omega) | with_reducible refine Bk.alloc ?_ _ | with_reducible refine Bk.drew ?_ | with_reducible refine Bk.drewN ?_ _ | with_reducible refine Bk.step (by with_reducible assumption) ?_ (by first | omega | (simp <;> omega))))); obtain ⟨⟨a10, a11, a12, a13, a14⟩, -⟩ := HK1.out.five; obtain ⟨c10, c11⟩ := HC1.out.pair; clear hb)
    | (go_at_call_of 65 (Value.slice A2 n2 c2); refine (contains_any _ _ _ _ _ _ _ _ _ (HS.out _ HB1.out).b (HCL.out _ HB1.out).b).mono ?_; rintro e w2 ⟨hb, rfl⟩; rw [HOK.out.cb]; have HB2 : Hid (Below w.heap.size w w2) := Lib.hid (by have hb0 := HB1.out; exact (by repeat (first | with_reducible exact Below.refl _ _ | with_reducible assumption | with_reducible refine Below.drew ?_ | with_reducible refine Below.drewN ?_ _ | with_reducible refine Below.alloc2 ?_ _ | with_reducible refine Below.alloc ?_ (by first | omega | (simp <;> omega)) _ | with_reducible refine Below.setCell ?_ (by first | omega | (simp <;> omega)) _ | with_reducible refine Below.step2 (by with_reducible assumption) ?_ | with_reducible refine Below.step (by with_reducible assumption) ?_ (by first | omega | (simp <;> omega))))); have HK2 : Hid (Bk w2 w.heap.size 24 #[.slice A n c, .slice A2 n2 c2, .int .i64 s.width, .int .i64 s.gap, .int .i64 s.lift]) := Lib.hid (HK1.out.below hb HK1.out.lt); have HC2 : Hid (Bk w2 (w.heap.size + 1) 26 #[.slice B m d, .slice B2 m2 d2]) := Lib.hid (HC1.out.below hb HC1.out.lt); obtain ⟨⟨a20, a21, a22, a23, a24⟩, -⟩ := HK2.out.five; obtain ⟨c20, c21⟩ := HC2.out.pair; clear hb)
    | (go_at_call_of 66 (Value.slice B m d); refine (layDescends_any _ _ _ _ _ (HCL.out _ HB2.out).a).mono ?_; rintro e w3 ⟨hb, rfl⟩; rw [HOK.out.fa]; have HB3 : Hid (Below w.heap.size w w3) := Lib.hid (by have hb0 := HB2.out; exact (by repeat (first | with_reducible exact Below.refl _ _ | with_reducible assumption | with_reducible refine Below.drew ?_ | with_reducible refine Below.drewN ?_ _ | with_reducible refine Below.alloc2 ?_ _ | with_reducible refine Below.alloc ?_ (by first | omega | (simp <;> omega)) _ | with_reducible refine Below.setCell ?_ (by first | omega | (simp <;> omega)) _ | with_reducible refine Below.step2 (by with_reducible assumption) ?_ | with_reducible refine Below.step (by with_reducible assumption) ?_ (by first | omega | (simp <;> omega))))); have HK3 : Hid (Bk w3 w.heap.size 24 #[.slice A n c, .slice A2 n2 c2, .int .i64 s.width, .int .i64 s.gap, .int .i64 s.lift]) := Lib.hid (HK2.out.below hb HK2.out.lt); have HC3 : Hid (Bk w3 (w.heap.size + 1) 26 #[.slice B m d, .slice B2 m2 d2]) := Lib.hid (HC2.out.below hb HC2.out.lt); obtain ⟨⟨a30, a31, a32, a33, a34⟩, -⟩ := HK3.out.five; obtain ⟨c30, c31⟩ := HC3.out.pair; clear hb)
    | (go_at_call_of 66 (Value.slice B2 m2 d2); refine (layDescends_any _ _ _ _ _ (HCL.out _ HB3.out).b).mono ?_; rintro e w4 ⟨hb, rfl⟩; rw [HOK.out.fb]; have HB4 : Hid (Below w.heap.size w w4) := Lib.hid (by have hb0 := HB3.out; exact (by repeat (first | with_reducible exact Below.refl _ _ | with_reducible assumption | with_reducible refine Below.drew ?_ | with_reducible refine Below.drewN ?_ _ | with_reducible refine Below.alloc2 ?_ _ | with_reducible refine Below.alloc ?_ (by first | omega | (simp <;> omega)) _ | with_reducible refine Below.setCell ?_ (by first | omega | (simp <;> omega)) _ | with_reducible refine Below.step2 (by with_reducible assumption) ?_ | with_reducible refine Below.step (by with_reducible assumption) ?_ (by first | omega | (simp <;> omega))))); have HK4 : Hid (Bk w4 w.heap.size 24 #[.slice A n c, .slice A2 n2 c2, .int .i64 s.width, .int .i64 s.gap, .int .i64 s.lift]) := Lib.hid (HK3.out.below hb HK3.out.lt); have HC4 : Hid (Bk w4 (w.heap.size + 1) 26 #[.slice B m d, .slice B2 m2 d2]) := Lib.hid (HC3.out.below hb HC3.out.lt); obtain ⟨⟨a40, a41, a42, a43, a44⟩, -⟩ := HK4.out.five; obtain ⟨c40, c41⟩ := HC4.out.pair; clear hb))
  go_ret
  exact ⟨HB4.out, rfl⟩

end Go.Proofs.Ytkcbfkflkepfeaa
